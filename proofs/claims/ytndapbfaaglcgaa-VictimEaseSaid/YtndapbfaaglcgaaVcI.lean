/-
  platelayerlaw12.VictimEase answers true.
-/
import Derived.Test.YtndapbfaaglcgaaVcE
import Derived.Test.YtndapbfaaglcgaaPhase
import Derived.Test.YtndapbfaaglcgaaHand
namespace Go.Proofs.Ytndapbfaaglcgaa
open Go.RowKit

theorem zsC_setv : ∀ {L : List VZ} {i : Nat} (h : i < L.length) {y : Int}, zsC (L.set i { L[i] with v := y }) = (zsC L).set (i * 3 + 1) (.int .i64 y)
  | e :: L, 0, _, y => rfl
  | e :: L, i + 1, h, y => by
    have ih := zsC_setv (L := L) (i := i) (by simpa using h) (y := y)
    show zC e ++ zsC (L.set i { L[i]'(by simpa using h) with v := y }) = (zC e ++ zsC L).set ((i + 1) * 3 + 1) _
    rw [ih, show (i + 1) * 3 + 1 = i * 3 + 1 + 1 + 1 + 1 by omega]
    rfl
/-- The same zones with fewer live pages. -/
structure EaseOk (l ms : List VZ) : Prop where
  len : ms.length = l.length
  ids : VZ.ids ms = VZ.ids l
  le : ∀ i (h : i < l.length) (h2 : i < ms.length), 0 ≤ ms[i].v ∧ ms[i].v ≤ l[i].v
  age : AgeOk ms
theorem EaseOk.refl {p : Int} {l : List VZ} (hf : VZ.Fit p l) (hg : AgeOk l) : EaseOk l l := ⟨rfl, rfl, fun i h _ => ⟨(hf _ (List.getElem_mem h)).2.1, Int.le_refl _⟩, hg⟩
theorem EaseOk.set {l ms : List VZ} (h : EaseOk l ms) {i : Nat} (hi : i < ms.length) {nv : Int} (h0 : 0 ≤ nv) (h1 : nv ≤ ms[i].v) : EaseOk l (ms.set i { ms[i] with v := nv }) := by
  refine ⟨by rw [List.length_set]; exact h.len, ?_, fun j hj hj2 => ?_, fun z hz => ?_⟩
  · rw [← h.ids]
    unfold VZ.ids
    refine List.ext_getElem (by simp) fun j h1 h2 => ?_
    simp only [List.getElem_map, List.getElem_set]
    by_cases e : i = j
    · subst e
      simp
    · simp [e]
  · have hj3 : j < ms.length := by rw [h.len]; exact hj
    obtain ⟨g0, g1⟩ := h.le j hj hj3
    rw [List.getElem_set]
    by_cases e : i = j
    · subst e
      simp only [if_true]
      exact ⟨h0, Int.le_trans h1 g1⟩
    · rw [if_neg e]
      exact ⟨g0, g1⟩
  · rcases List.mem_or_eq_of_mem_set hz with hz | rfl
    · exact h.age z hz
    · exact h.age (ms[i]) (List.getElem_mem hi)
theorem EaseOk.fit {p : Int} {l ms : List VZ} (h : EaseOk l ms) (hf : VZ.Fit p l) : VZ.Fit p ms := by
  intro z hz
  obtain ⟨i, hi, rfl⟩ := List.getElem_of_mem hz
  have hil : i < l.length := by rw [← h.len]; exact hi
  have h1 := hf _ (List.getElem_mem hil)
  obtain ⟨g0, g1⟩ := h.le i hil hi
  have he : ms[i].id = l[i].id := by
    have h2 : (VZ.ids ms)[i]'(by unfold VZ.ids; simpa using hi) = (VZ.ids l)[i]'(by unfold VZ.ids; simpa using hil) := by
      simp only [h.ids]
    simpa [VZ.ids] using h2
  exact ⟨by rw [he]; exact h1.1, g0, by omega⟩
theorem EaseOk.apart {l ms : List VZ} (h : EaseOk l ms) (ha : VZ.Apart l) : VZ.Apart ms := by
  rw [← VZ.apart_iff] at *
  rw [h.ids]
  exact ha
set_option maxHeartbeats 8000000 in
set_option maxRecDepth 100000 in
theorem vcease_true (O : VOps) {w : World} (p extra : Int) (A : Option Addr) (n c : Nat) (l : List VZ) (hl : l.length = n) (hr : RdV w w.heap.size A (zsC l)) (hnc : n ≤ c) (hz : A = none → c = 0) (hg : AgeOk l) (F : Option Addr) (nf cf : Nat) (fs : List Int) (hfl : fs.length = nf) (hfr : RdV w w.heap.size F (iCells fs)) : Calls Try.prog 6 #[.int .i64 p, .int .i64 extra, .slice A n c, .slice F nf cf] w (BoolB true w) := by
  have HN := Lib.hid hl
  have HZ := Lib.hid hz
  have HNC := Lib.hid hnc
  have HAG := Lib.hid hg
  have HR := Lib.hid hr
  have HFN := Lib.hid hfl
  have HFW := Lib.hid hfr
  clear hl hr hz hg hnc hfl hfr
  go_enter Try.func6, Try.ntmps6
  go_wp2_with fail
  refine (vcawake_true O w).mono ?_
  rintro r w1 ⟨rfl, hb⟩
  have HB1 := Lib.hid hb
  have HR1 := Lib.hid (HR.out.up hb)
  clear hb HR
  go_wp2_with fail
  refine (vcoutside_at p l HN.out HR1.out).mono ?_
  rintro r w2 ⟨rfl, hb⟩
  have HB2 := Lib.hid (below_all HB1.out hb)
  have HR2 := Lib.hid (HR1.out.up hb)
  clear hb HB1 HR1
  have HRO := Lib.hid (fun h => outB_no (p := p) (l := l) h)
  obtain ⟨ob, hob⟩ : ∃ x, outB p l = x := ⟨_, rfl⟩
  rw [hob] at HRO ⊢
  clear hob
  cases ob with
  | true =>
    go_wp2_with fail
    go_ret
    exact ⟨rfl, HB2.out⟩
  | false =>
  obtain ⟨hp1, hp2, hfit, hap, hn24⟩ := HRO.out rfl
  rw [HN.out] at hn24
  have HF := Lib.hid hfit
  have HA := Lib.hid hap
  clear hfit hap HRO
  by_cases h4 : extra < 0
  · have d4 : decide (extra < 0) = true := by simpa using h4
    clear h4
    go_wp2_with fail
    go_ret
    exact ⟨rfl, HB2.out⟩
  have d4 : decide (extra < 0) = false := by simpa using h4
  by_cases h5 : 16 < extra
  · have d5 : decide (16 < extra) = true := by simpa using h5
    clear h4 h5
    go_wp2_with fail
    go_ret
    exact ⟨rfl, HB2.out⟩
  have d5 : decide (16 < extra) = false := by simpa using h5
  have he0 : 0 ≤ extra := by omega
  have he1 : extra ≤ 16 := by omega
  clear h4 h5
  by_cases h6 : 60 < nf
  · go_wp2_with fail
    go_ret
    exact ⟨rfl, HB2.out⟩
  obtain ⟨w3, hw3⟩ : ∃ u, w2.alloc (.cells #[] 38) = u := ⟨_, rfl⟩
  have hb3 : Below w2.heap.size w2 w3 := by rw [← hw3]; exact (Below.refl _ _).alloc (Nat.le_refl _) _
  have HO3 : Hid (OwnK w3 w2.heap.size 38 3 (.slice (some ⟨w2.heap.size, 0, none⟩) 0 0) 0 []) := Lib.hid (by rw [← hw3]; exact OwnK.new w2 _ _ 3 0 [] (Nat.le_refl _) rfl (by omega))
  have HB3 := Lib.hid hb3
  have HR3 := Lib.hid (HR2.out.up hb3)
  clear hb3
  go_wp2_with (first
    | (at_builtin; go_loud (refine appP _ rfl (.tmp 31) (.tmp 32) 22 38 (.agg #[.int .i64 0, .int .i64 0, .int .u32 0]) 3 24 rfl Try.underlying22 vzInfo rfl (by decide) (by decide) w2.heap.size 0 n c (.slice (some ⟨w2.heap.size, 0, none⟩) 0 0) [] (zsC l) A rfl HO3.out rfl (by rw [zsC_len, HN.out]) HR3.out HZ.out (zsC_one _) (by omega) HB3.out.size ?_; intro v4 w4 ho hg; rw [Nat.zero_add, List.nil_append] at ho; obtain ⟨Am, cm, rfl, _, _, _⟩ := ho.form; have HO4 := Lib.hid ho; have HB4 := Lib.hid (below_grown HB3.out hg (fun e he => HO3.out.own e he)); clear ho hg))
    | fail)
  clear d4 d5 hw3
  go_loopg [36] n (fun q y wr => ∃ (i : Nat) (ms : List VZ), i ≤ n ∧ q = n - i ∧ y = .int .i64 (i : Int) ∧ EaseOk l ms ∧ OwnK wr w2.heap.size 38 3 (.slice Am n cm) n (zsC ms) ∧ Below w2.heap.size w2 wr)
  case atStart => exact ⟨0, l, by omega, by omega, rfl, EaseOk.refl HF.out HAG.out, HO4.out, HB4.out⟩
  case round =>
    clear HO3 HB3 HR3
    obtain ⟨i, ms, hi, hq, rfl, heo, ho, hb⟩ := hrel
    have HQ := Lib.hid hq
    have HEO := Lib.hid heo
    have HO := Lib.hid ho
    have HB := Lib.hid hb
    clear hq heo ho hb
    by_cases hlt : i < n
    · have hms : i < ms.length := by rw [HEO.out.len, HN.out]; exact hlt
      by_cases hif : i < nf
      · obtain ⟨b, o, rfl, hbl, hcell⟩ := (HFW.out.below (below_all HB2.out HB.out)) (by rw [iCells_len, HFN.out]; omega)
        have hfl : i < fs.length := by rw [HFN.out]; exact hif
        have cf0 := rdv_i (B := 0) hcell i hfl
        obtain ⟨f, hf⟩ : ∃ x, fs[i]'hfl = x := ⟨_, rfl⟩
        rw [hf] at cf0
        have HCF : Hid (∀ u, Below wr.heap.size wr u → u.cell? ⟨b, o + i, none⟩ = some (.int .i64 f)) := Lib.hid (fun u hu => (hu.cell (p := ⟨b, o + i, none⟩) (Nat.lt_of_lt_of_le hbl (below_all HB2.out HB.out).size)).trans cf0)
        clear hcell hf hfl
        by_cases hf0 : 0 < f
        · obtain ⟨g, og, rfl, hgl, hcell2⟩ := HO.out.rd (by rw [zsC_len, HEO.out.len, HN.out]; omega)
          have hog := HO.out.off
          subst hog
          obtain ⟨_, cv, _⟩ := z_cells hcell2 i hms
          rw [Nat.zero_add] at cv
          have HGB : Hid (w2.heap.size ≤ g) := Lib.hid (HO.out.own g rfl)
          have hv := HEO.out.le i (by rw [HN.out]; exact hlt) hms
          have hlv := (HF.out (l[i]'(by rw [HN.out]; exact hlt)) (List.getElem_mem _)).2.2
          obtain ⟨v, hvv⟩ : ∃ x, (ms[i]'hms).v = x := ⟨_, rfl⟩
          have hv0 : 0 ≤ v := by rw [← hvv]; exact hv.1
          have hv16 : v ≤ 16 := by rw [← hvv]; omega
          rw [hvv] at cv
          obtain ⟨nv, hnv⟩ : ∃ x, max (v - min f 16) 0 = x := ⟨_, rfl⟩
          have HNV := Lib.hid hnv
          have hnv0 : 0 ≤ nv := by omega
          have hnv1 : nv ≤ (ms[i]'hms).v := by rw [hvv]; omega
          have HSS : Hid (∀ u, Below wr.heap.size wr u → u.cell? ⟨g, i * 3 + 1, none⟩ = some (.int .i64 v) ∧ u.cell? ⟨b, o + i, none⟩ = some (.int .i64 f)) := Lib.hid (fun u hu => ⟨(hu.cell (p := ⟨g, i * 3 + 1, none⟩) hgl).trans cv, HCF.out u hu⟩)
          have HFR : Hid (wr.drew.frozen? ⟨g, i * 3 + 1, none⟩ = false) := Lib.hid ((HO.out.up (Below.refl _ _).drew).free _)
          clear hcell2 hvv hlv hv hnv cv
          go_wp2_with fail
          have hfp : 0 < f := hf0
          clear cf0 hf0
          by_cases h16 : f ≤ 16
          · by_cases hle : v - f < 0
            · have hnv : nv = 0 := by rw [← HNV.out]; omega
              subst hnv
              have w5 : IntKind.i64.wrap (v - f) = v - f := IntWalk.i64_in _ (by omega)
              refine wp_region_parts (S := fun u => u.cell? ⟨g, i * 3 + 1, none⟩ = some (.int .i64 v) ∧ u.cell? ⟨b, o + i, none⟩ = some (.int .i64 f)) 14 3 _ (by kernel_rfl) (by kernel_rfl) (by rfl) (by simp only [List.take_succ_cons, List.take_zero]; rfl) ?_ (fun hHeld => ?_)
              · exact HSS.out _ (Below.refl _ _).drew
              refine wpAnyH_take (i := 0) (v := ?_) rfl (by kernel_rfl) (by kernel_rfl) (by kernel_rfl) (fun _ _ _ h => h) (Or.inl ⟨by rfl, ?_⟩) hHeld ?_
              rotate_left
              · intro u hSu
                obtain ⟨s0, s1⟩ := hSu
                go_simp
                try with_reducible rfl
              try simp only [Act.put, List.setIfInBounds_toArray, List.set_cons_zero, List.set_cons_succ, List.getElem_toArray, List.getElem_cons_zero, List.getElem_cons_succ]
              refine wpAnyH_take (i := 1) (v := ?_) rfl (by kernel_rfl) (by kernel_rfl) (by kernel_rfl) (fun _ _ _ h => h) (Or.inl ⟨by rfl, ?_⟩) hHeld ?_
              rotate_left
              · intro u hSu
                obtain ⟨s0, s1⟩ := hSu
                go_simp
                try with_reducible rfl
              try simp only [Act.put, List.setIfInBounds_toArray, List.set_cons_zero, List.set_cons_succ, List.getElem_toArray, List.getElem_cons_zero, List.getElem_cons_succ]
              refine wpAnyH_take (i := 2) (v := ?_) rfl (by kernel_rfl) (by kernel_rfl) (by kernel_rfl) (fun _ _ _ h => h) (Or.inl ⟨by rfl, ?_⟩) hHeld ?_
              rotate_left
              · intro u hSu
                obtain ⟨s0, s1⟩ := hSu
                go_simp
                try with_reducible rfl
              try simp only [Act.put, List.setIfInBounds_toArray, List.set_cons_zero, List.set_cons_succ, List.getElem_toArray, List.getElem_cons_zero, List.getElem_cons_succ]
              refine wpAnyH_take (i := 3) (v := ?_) rfl (by kernel_rfl) (by kernel_rfl) (by kernel_rfl) (fun _ _ _ h => h) (Or.inl ⟨by rfl, ?_⟩) hHeld ?_
              rotate_left
              · intro u hSu
                obtain ⟨s0, s1⟩ := hSu
                go_simp
                try with_reducible rfl
              try simp only [Act.put, List.setIfInBounds_toArray, List.set_cons_zero, List.set_cons_succ, List.getElem_toArray, List.getElem_cons_zero, List.getElem_cons_succ]
              refine wpAnyH_take (i := 4) (v := ?_) rfl (by kernel_rfl) (by kernel_rfl) (by kernel_rfl) (fun _ _ _ h => h) (Or.inl ⟨by rfl, ?_⟩) hHeld ?_
              rotate_left
              · intro u hSu
                obtain ⟨s0, s1⟩ := hSu
                go_simp
                try with_reducible rfl
              try simp only [Act.put, List.setIfInBounds_toArray, List.set_cons_zero, List.set_cons_succ, List.getElem_toArray, List.getElem_cons_zero, List.getElem_cons_succ]
              refine wpAnyH_take (i := 5) (v := ?_) rfl (by kernel_rfl) (by kernel_rfl) (by kernel_rfl) (fun _ _ _ h => h) (Or.inl ⟨by rfl, ?_⟩) hHeld ?_
              rotate_left
              · intro u hSu
                obtain ⟨s0, s1⟩ := hSu
                go_simp
                try with_reducible rfl
              try simp only [Act.put, List.setIfInBounds_toArray, List.set_cons_zero, List.set_cons_succ, List.getElem_toArray, List.getElem_cons_zero, List.getElem_cons_succ]
              refine wpAnyH_take (i := 6) (v := ?_) rfl (by kernel_rfl) (by kernel_rfl) (by kernel_rfl) (fun _ _ _ h => h) (Or.inl ⟨by rfl, ?_⟩) hHeld ?_
              rotate_left
              · intro u hSu
                obtain ⟨s0, s1⟩ := hSu
                go_simp
                try with_reducible rfl
              try simp only [Act.put, List.setIfInBounds_toArray, List.set_cons_zero, List.set_cons_succ, List.getElem_toArray, List.getElem_cons_zero, List.getElem_cons_succ]
              refine wpAnyH_take (i := 7) (v := ?_) rfl (by kernel_rfl) (by kernel_rfl) (by kernel_rfl) (fun _ _ _ h => h) (Or.inl ⟨by rfl, ?_⟩) hHeld ?_
              rotate_left
              · intro u hSu
                obtain ⟨s0, s1⟩ := hSu
                go_simp
                try with_reducible rfl
              try simp only [Act.put, List.setIfInBounds_toArray, List.set_cons_zero, List.set_cons_succ, List.getElem_toArray, List.getElem_cons_zero, List.getElem_cons_succ]
              refine wpAnyH_take (i := 8) (v := ?_) rfl (by kernel_rfl) (by kernel_rfl) (by kernel_rfl) (fun _ _ _ h => h) (Or.inl ⟨by rfl, ?_⟩) hHeld ?_
              rotate_left
              · intro u hSu
                obtain ⟨s0, s1⟩ := hSu
                go_simp
                try with_reducible rfl
              try simp only [Act.put, List.setIfInBounds_toArray, List.set_cons_zero, List.set_cons_succ, List.getElem_toArray, List.getElem_cons_zero, List.getElem_cons_succ]
              refine wpAnyH_take (i := 9) (v := ?_) rfl (by kernel_rfl) (by kernel_rfl) (by kernel_rfl) (fun _ _ _ h => h) (Or.inl ⟨by rfl, ?_⟩) hHeld ?_
              rotate_left
              · intro u hSu
                obtain ⟨s0, s1⟩ := hSu
                go_simp
                try with_reducible rfl
              try simp only [Act.put, List.setIfInBounds_toArray, List.set_cons_zero, List.set_cons_succ, List.getElem_toArray, List.getElem_cons_zero, List.getElem_cons_succ]
              refine wpAnyH_take (i := 10) (v := ?_) rfl (by kernel_rfl) (by kernel_rfl) (by kernel_rfl) (fun _ _ _ h => h) (Or.inl ⟨by rfl, ?_⟩) hHeld ?_
              rotate_left
              · intro u hSu
                obtain ⟨s0, s1⟩ := hSu
                go_simp
                try with_reducible rfl
              try simp only [Act.put, List.setIfInBounds_toArray, List.set_cons_zero, List.set_cons_succ, List.getElem_toArray, List.getElem_cons_zero, List.getElem_cons_succ]
              refine wpAnyH_take (i := 11) (v := ?_) rfl (by kernel_rfl) (by kernel_rfl) (by kernel_rfl) (fun _ _ _ h => h) (Or.inl ⟨by rfl, ?_⟩) hHeld ?_
              rotate_left
              · intro u hSu
                obtain ⟨s0, s1⟩ := hSu
                go_simp
                try with_reducible rfl
              try simp only [Act.put, List.setIfInBounds_toArray, List.set_cons_zero, List.set_cons_succ, List.getElem_toArray, List.getElem_cons_zero, List.getElem_cons_succ]
              refine wpAnyH_take (i := 12) (v := ?_) rfl (by kernel_rfl) (by kernel_rfl) (by kernel_rfl) (fun _ _ _ h => h) (Or.inl ⟨by rfl, ?_⟩) hHeld ?_
              rotate_left
              · intro u hSu
                obtain ⟨s0, s1⟩ := hSu
                go_simp
                try with_reducible rfl
              try simp only [Act.put, List.setIfInBounds_toArray, List.set_cons_zero, List.set_cons_succ, List.getElem_toArray, List.getElem_cons_zero, List.getElem_cons_succ]
              refine wpAnyH_take (i := 13) (v := ?_) rfl (by kernel_rfl) (by kernel_rfl) (by kernel_rfl) (fun _ _ _ h => h) (Or.inl ⟨by rfl, ?_⟩) hHeld ?_
              rotate_left
              · intro u hSu
                obtain ⟨s0, s1⟩ := hSu
                go_simp
                try with_reducible rfl
              try simp only [Act.put, List.setIfInBounds_toArray, List.set_cons_zero, List.set_cons_succ, List.getElem_toArray, List.getElem_cons_zero, List.getElem_cons_succ]
              refine wpAnyH_done (by kernel_rfl) ?_ _
              show wpAny _ _ _ _ 3 _ _ _
              clear hHeld
              refine wpAny_take (i := 14) (v := ?_) rfl (by kernel_rfl) (by kernel_rfl) (by kernel_rfl) (fun _ _ _ h => h) (Or.inl ⟨by rfl, ?_⟩) ?_
              rotate_left
              · intro u
                go_simp
                try with_reducible rfl
              try simp only [Act.put, List.setIfInBounds_toArray, List.set_cons_zero, List.set_cons_succ, List.getElem_toArray, List.getElem_cons_zero, List.getElem_cons_succ]
              refine wpAny_take (i := 15) (v := ?_) rfl (by kernel_rfl) (by kernel_rfl) (by kernel_rfl) (fun _ _ _ h => h) (Or.inl ⟨by rfl, ?_⟩) ?_
              rotate_left
              · intro u
                go_simp
                try with_reducible rfl
              try simp only [Act.put, List.setIfInBounds_toArray, List.set_cons_zero, List.set_cons_succ, List.getElem_toArray, List.getElem_cons_zero, List.getElem_cons_succ]
              have y4 := (HSS.out _ (Below.refl _ _).drew).1
              have f4 := HFR.out
              refine wpAny_ready (rs := [16]) (by kernel_rfl) (by simp) ?_
              refine AllReady.cons rfl (fun K hK => ?_) AllReady.nil
              go_simp
              refine hK _ _ ?_
              clear hK K
              refine wpAny_done (by kernel_rfl) ?_ _
              have HOX : Hid (OwnK (wr.drew.setCell ⟨g, i * 3 + 1, none⟩ (.int .i64 0)) w2.heap.size 38 3 (.slice (some ⟨g, 0, none⟩) n cm) n (zsC (ms.set i { ms[i]'hms with v := 0 }))) := Lib.hid (by
                rw [zsC_setv hms]
                exact ((HO.out.up (Below.refl _ _).drew).set _))
              have HBX : Hid (Below w2.heap.size w2 (wr.drew.setCell ⟨g, i * 3 + 1, none⟩ (.int .i64 0))) := Lib.hid ((below_all HB.out (Below.refl _ _).drew).setCell HGB.out _)
              have HEX := Lib.hid (HEO.out.set hms (nv := 0) hnv0 hnv1)
              clear y4 f4 HSS
              go_wp2_with fail
              go_roundg (n - (i + 1))
              case rel => exact ⟨i + 1, _, by omega, rfl, by go_num, HEX.out, HOX.out, HBX.out⟩
              case measure => have := HQ.out; omega
            · have hnv : nv = v - f := by rw [← HNV.out]; omega
              have w5 : IntKind.i64.wrap (v - f) = nv := by rw [hnv]; exact IntWalk.i64_in _ (by omega)
              clear hle hnv
              refine wp_region_parts (S := fun u => u.cell? ⟨g, i * 3 + 1, none⟩ = some (.int .i64 v) ∧ u.cell? ⟨b, o + i, none⟩ = some (.int .i64 f)) 14 3 _ (by kernel_rfl) (by kernel_rfl) (by rfl) (by simp only [List.take_succ_cons, List.take_zero]; rfl) ?_ (fun hHeld => ?_)
              · exact HSS.out _ (Below.refl _ _).drew
              refine wpAnyH_take (i := 0) (v := ?_) rfl (by kernel_rfl) (by kernel_rfl) (by kernel_rfl) (fun _ _ _ h => h) (Or.inl ⟨by rfl, ?_⟩) hHeld ?_
              rotate_left
              · intro u hSu
                obtain ⟨s0, s1⟩ := hSu
                go_simp
                try with_reducible rfl
              try simp only [Act.put, List.setIfInBounds_toArray, List.set_cons_zero, List.set_cons_succ, List.getElem_toArray, List.getElem_cons_zero, List.getElem_cons_succ]
              refine wpAnyH_take (i := 1) (v := ?_) rfl (by kernel_rfl) (by kernel_rfl) (by kernel_rfl) (fun _ _ _ h => h) (Or.inl ⟨by rfl, ?_⟩) hHeld ?_
              rotate_left
              · intro u hSu
                obtain ⟨s0, s1⟩ := hSu
                go_simp
                try with_reducible rfl
              try simp only [Act.put, List.setIfInBounds_toArray, List.set_cons_zero, List.set_cons_succ, List.getElem_toArray, List.getElem_cons_zero, List.getElem_cons_succ]
              refine wpAnyH_take (i := 2) (v := ?_) rfl (by kernel_rfl) (by kernel_rfl) (by kernel_rfl) (fun _ _ _ h => h) (Or.inl ⟨by rfl, ?_⟩) hHeld ?_
              rotate_left
              · intro u hSu
                obtain ⟨s0, s1⟩ := hSu
                go_simp
                try with_reducible rfl
              try simp only [Act.put, List.setIfInBounds_toArray, List.set_cons_zero, List.set_cons_succ, List.getElem_toArray, List.getElem_cons_zero, List.getElem_cons_succ]
              refine wpAnyH_take (i := 3) (v := ?_) rfl (by kernel_rfl) (by kernel_rfl) (by kernel_rfl) (fun _ _ _ h => h) (Or.inl ⟨by rfl, ?_⟩) hHeld ?_
              rotate_left
              · intro u hSu
                obtain ⟨s0, s1⟩ := hSu
                go_simp
                try with_reducible rfl
              try simp only [Act.put, List.setIfInBounds_toArray, List.set_cons_zero, List.set_cons_succ, List.getElem_toArray, List.getElem_cons_zero, List.getElem_cons_succ]
              refine wpAnyH_take (i := 4) (v := ?_) rfl (by kernel_rfl) (by kernel_rfl) (by kernel_rfl) (fun _ _ _ h => h) (Or.inl ⟨by rfl, ?_⟩) hHeld ?_
              rotate_left
              · intro u hSu
                obtain ⟨s0, s1⟩ := hSu
                go_simp
                try with_reducible rfl
              try simp only [Act.put, List.setIfInBounds_toArray, List.set_cons_zero, List.set_cons_succ, List.getElem_toArray, List.getElem_cons_zero, List.getElem_cons_succ]
              refine wpAnyH_take (i := 5) (v := ?_) rfl (by kernel_rfl) (by kernel_rfl) (by kernel_rfl) (fun _ _ _ h => h) (Or.inl ⟨by rfl, ?_⟩) hHeld ?_
              rotate_left
              · intro u hSu
                obtain ⟨s0, s1⟩ := hSu
                go_simp
                try with_reducible rfl
              try simp only [Act.put, List.setIfInBounds_toArray, List.set_cons_zero, List.set_cons_succ, List.getElem_toArray, List.getElem_cons_zero, List.getElem_cons_succ]
              refine wpAnyH_take (i := 6) (v := ?_) rfl (by kernel_rfl) (by kernel_rfl) (by kernel_rfl) (fun _ _ _ h => h) (Or.inl ⟨by rfl, ?_⟩) hHeld ?_
              rotate_left
              · intro u hSu
                obtain ⟨s0, s1⟩ := hSu
                go_simp
                try with_reducible rfl
              try simp only [Act.put, List.setIfInBounds_toArray, List.set_cons_zero, List.set_cons_succ, List.getElem_toArray, List.getElem_cons_zero, List.getElem_cons_succ]
              refine wpAnyH_take (i := 7) (v := ?_) rfl (by kernel_rfl) (by kernel_rfl) (by kernel_rfl) (fun _ _ _ h => h) (Or.inl ⟨by rfl, ?_⟩) hHeld ?_
              rotate_left
              · intro u hSu
                obtain ⟨s0, s1⟩ := hSu
                go_simp
                try with_reducible rfl
              try simp only [Act.put, List.setIfInBounds_toArray, List.set_cons_zero, List.set_cons_succ, List.getElem_toArray, List.getElem_cons_zero, List.getElem_cons_succ]
              refine wpAnyH_take (i := 8) (v := ?_) rfl (by kernel_rfl) (by kernel_rfl) (by kernel_rfl) (fun _ _ _ h => h) (Or.inl ⟨by rfl, ?_⟩) hHeld ?_
              rotate_left
              · intro u hSu
                obtain ⟨s0, s1⟩ := hSu
                go_simp
                try with_reducible rfl
              try simp only [Act.put, List.setIfInBounds_toArray, List.set_cons_zero, List.set_cons_succ, List.getElem_toArray, List.getElem_cons_zero, List.getElem_cons_succ]
              refine wpAnyH_take (i := 9) (v := ?_) rfl (by kernel_rfl) (by kernel_rfl) (by kernel_rfl) (fun _ _ _ h => h) (Or.inl ⟨by rfl, ?_⟩) hHeld ?_
              rotate_left
              · intro u hSu
                obtain ⟨s0, s1⟩ := hSu
                go_simp
                try with_reducible rfl
              try simp only [Act.put, List.setIfInBounds_toArray, List.set_cons_zero, List.set_cons_succ, List.getElem_toArray, List.getElem_cons_zero, List.getElem_cons_succ]
              refine wpAnyH_take (i := 10) (v := ?_) rfl (by kernel_rfl) (by kernel_rfl) (by kernel_rfl) (fun _ _ _ h => h) (Or.inl ⟨by rfl, ?_⟩) hHeld ?_
              rotate_left
              · intro u hSu
                obtain ⟨s0, s1⟩ := hSu
                go_simp
                try with_reducible rfl
              try simp only [Act.put, List.setIfInBounds_toArray, List.set_cons_zero, List.set_cons_succ, List.getElem_toArray, List.getElem_cons_zero, List.getElem_cons_succ]
              refine wpAnyH_take (i := 11) (v := ?_) rfl (by kernel_rfl) (by kernel_rfl) (by kernel_rfl) (fun _ _ _ h => h) (Or.inl ⟨by rfl, ?_⟩) hHeld ?_
              rotate_left
              · intro u hSu
                obtain ⟨s0, s1⟩ := hSu
                go_simp
                try with_reducible rfl
              try simp only [Act.put, List.setIfInBounds_toArray, List.set_cons_zero, List.set_cons_succ, List.getElem_toArray, List.getElem_cons_zero, List.getElem_cons_succ]
              refine wpAnyH_take (i := 12) (v := ?_) rfl (by kernel_rfl) (by kernel_rfl) (by kernel_rfl) (fun _ _ _ h => h) (Or.inl ⟨by rfl, ?_⟩) hHeld ?_
              rotate_left
              · intro u hSu
                obtain ⟨s0, s1⟩ := hSu
                go_simp
                try with_reducible rfl
              try simp only [Act.put, List.setIfInBounds_toArray, List.set_cons_zero, List.set_cons_succ, List.getElem_toArray, List.getElem_cons_zero, List.getElem_cons_succ]
              refine wpAnyH_take (i := 13) (v := ?_) rfl (by kernel_rfl) (by kernel_rfl) (by kernel_rfl) (fun _ _ _ h => h) (Or.inl ⟨by rfl, ?_⟩) hHeld ?_
              rotate_left
              · intro u hSu
                obtain ⟨s0, s1⟩ := hSu
                go_simp
                try with_reducible rfl
              try simp only [Act.put, List.setIfInBounds_toArray, List.set_cons_zero, List.set_cons_succ, List.getElem_toArray, List.getElem_cons_zero, List.getElem_cons_succ]
              refine wpAnyH_done (by kernel_rfl) ?_ _
              show wpAny _ _ _ _ 3 _ _ _
              clear hHeld
              refine wpAny_take (i := 14) (v := ?_) rfl (by kernel_rfl) (by kernel_rfl) (by kernel_rfl) (fun _ _ _ h => h) (Or.inl ⟨by rfl, ?_⟩) ?_
              rotate_left
              · intro u
                go_simp
                try with_reducible rfl
              try simp only [Act.put, List.setIfInBounds_toArray, List.set_cons_zero, List.set_cons_succ, List.getElem_toArray, List.getElem_cons_zero, List.getElem_cons_succ]
              refine wpAny_take (i := 15) (v := ?_) rfl (by kernel_rfl) (by kernel_rfl) (by kernel_rfl) (fun _ _ _ h => h) (Or.inl ⟨by rfl, ?_⟩) ?_
              rotate_left
              · intro u
                go_simp
                try with_reducible rfl
              try simp only [Act.put, List.setIfInBounds_toArray, List.set_cons_zero, List.set_cons_succ, List.getElem_toArray, List.getElem_cons_zero, List.getElem_cons_succ]
              have y4 := (HSS.out _ (Below.refl _ _).drew).1
              have f4 := HFR.out
              refine wpAny_ready (rs := [16]) (by kernel_rfl) (by simp) ?_
              refine AllReady.cons rfl (fun K hK => ?_) AllReady.nil
              go_simp
              refine hK _ _ ?_
              clear hK K
              refine wpAny_done (by kernel_rfl) ?_ _
              have HOX : Hid (OwnK (wr.drew.setCell ⟨g, i * 3 + 1, none⟩ (.int .i64 nv)) w2.heap.size 38 3 (.slice (some ⟨g, 0, none⟩) n cm) n (zsC (ms.set i { ms[i]'hms with v := nv }))) := Lib.hid (by
                rw [zsC_setv hms]
                exact ((HO.out.up (Below.refl _ _).drew).set _))
              have HBX : Hid (Below w2.heap.size w2 (wr.drew.setCell ⟨g, i * 3 + 1, none⟩ (.int .i64 nv))) := Lib.hid ((below_all HB.out (Below.refl _ _).drew).setCell HGB.out _)
              have HEX := Lib.hid (HEO.out.set hms (nv := nv) hnv0 hnv1)
              clear y4 f4 HSS
              go_wp2_with fail
              go_roundg (n - (i + 1))
              case rel => exact ⟨i + 1, _, by omega, rfl, by go_num, HEX.out, HOX.out, HBX.out⟩
              case measure => have := HQ.out; omega
          · by_cases hle : v - 16 < 0
            · have hnv : nv = 0 := by rw [← HNV.out]; omega
              subst hnv
              have w5 : IntKind.i64.wrap (v - 16) = v - 16 := IntWalk.i64_in _ (by omega)
              refine wp_region_parts (S := fun u => u.cell? ⟨g, i * 3 + 1, none⟩ = some (.int .i64 v) ∧ u.cell? ⟨b, o + i, none⟩ = some (.int .i64 f)) 14 3 _ (by kernel_rfl) (by kernel_rfl) (by rfl) (by simp only [List.take_succ_cons, List.take_zero]; rfl) ?_ (fun hHeld => ?_)
              · exact HSS.out _ (Below.refl _ _).drew
              refine wpAnyH_take (i := 0) (v := ?_) rfl (by kernel_rfl) (by kernel_rfl) (by kernel_rfl) (fun _ _ _ h => h) (Or.inl ⟨by rfl, ?_⟩) hHeld ?_
              rotate_left
              · intro u hSu
                obtain ⟨s0, s1⟩ := hSu
                go_simp
                try with_reducible rfl
              try simp only [Act.put, List.setIfInBounds_toArray, List.set_cons_zero, List.set_cons_succ, List.getElem_toArray, List.getElem_cons_zero, List.getElem_cons_succ]
              refine wpAnyH_take (i := 1) (v := ?_) rfl (by kernel_rfl) (by kernel_rfl) (by kernel_rfl) (fun _ _ _ h => h) (Or.inl ⟨by rfl, ?_⟩) hHeld ?_
              rotate_left
              · intro u hSu
                obtain ⟨s0, s1⟩ := hSu
                go_simp
                try with_reducible rfl
              try simp only [Act.put, List.setIfInBounds_toArray, List.set_cons_zero, List.set_cons_succ, List.getElem_toArray, List.getElem_cons_zero, List.getElem_cons_succ]
              refine wpAnyH_take (i := 2) (v := ?_) rfl (by kernel_rfl) (by kernel_rfl) (by kernel_rfl) (fun _ _ _ h => h) (Or.inl ⟨by rfl, ?_⟩) hHeld ?_
              rotate_left
              · intro u hSu
                obtain ⟨s0, s1⟩ := hSu
                go_simp
                try with_reducible rfl
              try simp only [Act.put, List.setIfInBounds_toArray, List.set_cons_zero, List.set_cons_succ, List.getElem_toArray, List.getElem_cons_zero, List.getElem_cons_succ]
              refine wpAnyH_take (i := 3) (v := ?_) rfl (by kernel_rfl) (by kernel_rfl) (by kernel_rfl) (fun _ _ _ h => h) (Or.inl ⟨by rfl, ?_⟩) hHeld ?_
              rotate_left
              · intro u hSu
                obtain ⟨s0, s1⟩ := hSu
                go_simp
                try with_reducible rfl
              try simp only [Act.put, List.setIfInBounds_toArray, List.set_cons_zero, List.set_cons_succ, List.getElem_toArray, List.getElem_cons_zero, List.getElem_cons_succ]
              refine wpAnyH_take (i := 4) (v := ?_) rfl (by kernel_rfl) (by kernel_rfl) (by kernel_rfl) (fun _ _ _ h => h) (Or.inl ⟨by rfl, ?_⟩) hHeld ?_
              rotate_left
              · intro u hSu
                obtain ⟨s0, s1⟩ := hSu
                go_simp
                try with_reducible rfl
              try simp only [Act.put, List.setIfInBounds_toArray, List.set_cons_zero, List.set_cons_succ, List.getElem_toArray, List.getElem_cons_zero, List.getElem_cons_succ]
              refine wpAnyH_take (i := 5) (v := ?_) rfl (by kernel_rfl) (by kernel_rfl) (by kernel_rfl) (fun _ _ _ h => h) (Or.inl ⟨by rfl, ?_⟩) hHeld ?_
              rotate_left
              · intro u hSu
                obtain ⟨s0, s1⟩ := hSu
                go_simp
                try with_reducible rfl
              try simp only [Act.put, List.setIfInBounds_toArray, List.set_cons_zero, List.set_cons_succ, List.getElem_toArray, List.getElem_cons_zero, List.getElem_cons_succ]
              refine wpAnyH_take (i := 6) (v := ?_) rfl (by kernel_rfl) (by kernel_rfl) (by kernel_rfl) (fun _ _ _ h => h) (Or.inl ⟨by rfl, ?_⟩) hHeld ?_
              rotate_left
              · intro u hSu
                obtain ⟨s0, s1⟩ := hSu
                go_simp
                try with_reducible rfl
              try simp only [Act.put, List.setIfInBounds_toArray, List.set_cons_zero, List.set_cons_succ, List.getElem_toArray, List.getElem_cons_zero, List.getElem_cons_succ]
              refine wpAnyH_take (i := 7) (v := ?_) rfl (by kernel_rfl) (by kernel_rfl) (by kernel_rfl) (fun _ _ _ h => h) (Or.inl ⟨by rfl, ?_⟩) hHeld ?_
              rotate_left
              · intro u hSu
                obtain ⟨s0, s1⟩ := hSu
                go_simp
                try with_reducible rfl
              try simp only [Act.put, List.setIfInBounds_toArray, List.set_cons_zero, List.set_cons_succ, List.getElem_toArray, List.getElem_cons_zero, List.getElem_cons_succ]
              refine wpAnyH_take (i := 8) (v := ?_) rfl (by kernel_rfl) (by kernel_rfl) (by kernel_rfl) (fun _ _ _ h => h) (Or.inl ⟨by rfl, ?_⟩) hHeld ?_
              rotate_left
              · intro u hSu
                obtain ⟨s0, s1⟩ := hSu
                go_simp
                try with_reducible rfl
              try simp only [Act.put, List.setIfInBounds_toArray, List.set_cons_zero, List.set_cons_succ, List.getElem_toArray, List.getElem_cons_zero, List.getElem_cons_succ]
              refine wpAnyH_take (i := 9) (v := ?_) rfl (by kernel_rfl) (by kernel_rfl) (by kernel_rfl) (fun _ _ _ h => h) (Or.inl ⟨by rfl, ?_⟩) hHeld ?_
              rotate_left
              · intro u hSu
                obtain ⟨s0, s1⟩ := hSu
                go_simp
                try with_reducible rfl
              try simp only [Act.put, List.setIfInBounds_toArray, List.set_cons_zero, List.set_cons_succ, List.getElem_toArray, List.getElem_cons_zero, List.getElem_cons_succ]
              refine wpAnyH_take (i := 10) (v := ?_) rfl (by kernel_rfl) (by kernel_rfl) (by kernel_rfl) (fun _ _ _ h => h) (Or.inl ⟨by rfl, ?_⟩) hHeld ?_
              rotate_left
              · intro u hSu
                obtain ⟨s0, s1⟩ := hSu
                go_simp
                try with_reducible rfl
              try simp only [Act.put, List.setIfInBounds_toArray, List.set_cons_zero, List.set_cons_succ, List.getElem_toArray, List.getElem_cons_zero, List.getElem_cons_succ]
              refine wpAnyH_take (i := 11) (v := ?_) rfl (by kernel_rfl) (by kernel_rfl) (by kernel_rfl) (fun _ _ _ h => h) (Or.inl ⟨by rfl, ?_⟩) hHeld ?_
              rotate_left
              · intro u hSu
                obtain ⟨s0, s1⟩ := hSu
                go_simp
                try with_reducible rfl
              try simp only [Act.put, List.setIfInBounds_toArray, List.set_cons_zero, List.set_cons_succ, List.getElem_toArray, List.getElem_cons_zero, List.getElem_cons_succ]
              refine wpAnyH_take (i := 12) (v := ?_) rfl (by kernel_rfl) (by kernel_rfl) (by kernel_rfl) (fun _ _ _ h => h) (Or.inl ⟨by rfl, ?_⟩) hHeld ?_
              rotate_left
              · intro u hSu
                obtain ⟨s0, s1⟩ := hSu
                go_simp
                try with_reducible rfl
              try simp only [Act.put, List.setIfInBounds_toArray, List.set_cons_zero, List.set_cons_succ, List.getElem_toArray, List.getElem_cons_zero, List.getElem_cons_succ]
              refine wpAnyH_take (i := 13) (v := ?_) rfl (by kernel_rfl) (by kernel_rfl) (by kernel_rfl) (fun _ _ _ h => h) (Or.inl ⟨by rfl, ?_⟩) hHeld ?_
              rotate_left
              · intro u hSu
                obtain ⟨s0, s1⟩ := hSu
                go_simp
                try with_reducible rfl
              try simp only [Act.put, List.setIfInBounds_toArray, List.set_cons_zero, List.set_cons_succ, List.getElem_toArray, List.getElem_cons_zero, List.getElem_cons_succ]
              refine wpAnyH_done (by kernel_rfl) ?_ _
              show wpAny _ _ _ _ 3 _ _ _
              clear hHeld
              refine wpAny_take (i := 14) (v := ?_) rfl (by kernel_rfl) (by kernel_rfl) (by kernel_rfl) (fun _ _ _ h => h) (Or.inl ⟨by rfl, ?_⟩) ?_
              rotate_left
              · intro u
                go_simp
                try with_reducible rfl
              try simp only [Act.put, List.setIfInBounds_toArray, List.set_cons_zero, List.set_cons_succ, List.getElem_toArray, List.getElem_cons_zero, List.getElem_cons_succ]
              refine wpAny_take (i := 15) (v := ?_) rfl (by kernel_rfl) (by kernel_rfl) (by kernel_rfl) (fun _ _ _ h => h) (Or.inl ⟨by rfl, ?_⟩) ?_
              rotate_left
              · intro u
                go_simp
                try with_reducible rfl
              try simp only [Act.put, List.setIfInBounds_toArray, List.set_cons_zero, List.set_cons_succ, List.getElem_toArray, List.getElem_cons_zero, List.getElem_cons_succ]
              have y4 := (HSS.out _ (Below.refl _ _).drew).1
              have f4 := HFR.out
              refine wpAny_ready (rs := [16]) (by kernel_rfl) (by simp) ?_
              refine AllReady.cons rfl (fun K hK => ?_) AllReady.nil
              go_simp
              refine hK _ _ ?_
              clear hK K
              refine wpAny_done (by kernel_rfl) ?_ _
              have HOX : Hid (OwnK (wr.drew.setCell ⟨g, i * 3 + 1, none⟩ (.int .i64 0)) w2.heap.size 38 3 (.slice (some ⟨g, 0, none⟩) n cm) n (zsC (ms.set i { ms[i]'hms with v := 0 }))) := Lib.hid (by
                rw [zsC_setv hms]
                exact ((HO.out.up (Below.refl _ _).drew).set _))
              have HBX : Hid (Below w2.heap.size w2 (wr.drew.setCell ⟨g, i * 3 + 1, none⟩ (.int .i64 0))) := Lib.hid ((below_all HB.out (Below.refl _ _).drew).setCell HGB.out _)
              have HEX := Lib.hid (HEO.out.set hms (nv := 0) hnv0 hnv1)
              clear y4 f4 HSS
              go_wp2_with fail
              go_roundg (n - (i + 1))
              case rel => exact ⟨i + 1, _, by omega, rfl, by go_num, HEX.out, HOX.out, HBX.out⟩
              case measure => have := HQ.out; omega
            · have hnv : nv = v - 16 := by rw [← HNV.out]; omega
              subst hnv
              have w5 : IntKind.i64.wrap (v - 16) = v - 16 := IntWalk.i64_in _ (by omega)
              refine wp_region_parts (S := fun u => u.cell? ⟨g, i * 3 + 1, none⟩ = some (.int .i64 v) ∧ u.cell? ⟨b, o + i, none⟩ = some (.int .i64 f)) 14 3 _ (by kernel_rfl) (by kernel_rfl) (by rfl) (by simp only [List.take_succ_cons, List.take_zero]; rfl) ?_ (fun hHeld => ?_)
              · exact HSS.out _ (Below.refl _ _).drew
              refine wpAnyH_take (i := 0) (v := ?_) rfl (by kernel_rfl) (by kernel_rfl) (by kernel_rfl) (fun _ _ _ h => h) (Or.inl ⟨by rfl, ?_⟩) hHeld ?_
              rotate_left
              · intro u hSu
                obtain ⟨s0, s1⟩ := hSu
                go_simp
                try with_reducible rfl
              try simp only [Act.put, List.setIfInBounds_toArray, List.set_cons_zero, List.set_cons_succ, List.getElem_toArray, List.getElem_cons_zero, List.getElem_cons_succ]
              refine wpAnyH_take (i := 1) (v := ?_) rfl (by kernel_rfl) (by kernel_rfl) (by kernel_rfl) (fun _ _ _ h => h) (Or.inl ⟨by rfl, ?_⟩) hHeld ?_
              rotate_left
              · intro u hSu
                obtain ⟨s0, s1⟩ := hSu
                go_simp
                try with_reducible rfl
              try simp only [Act.put, List.setIfInBounds_toArray, List.set_cons_zero, List.set_cons_succ, List.getElem_toArray, List.getElem_cons_zero, List.getElem_cons_succ]
              refine wpAnyH_take (i := 2) (v := ?_) rfl (by kernel_rfl) (by kernel_rfl) (by kernel_rfl) (fun _ _ _ h => h) (Or.inl ⟨by rfl, ?_⟩) hHeld ?_
              rotate_left
              · intro u hSu
                obtain ⟨s0, s1⟩ := hSu
                go_simp
                try with_reducible rfl
              try simp only [Act.put, List.setIfInBounds_toArray, List.set_cons_zero, List.set_cons_succ, List.getElem_toArray, List.getElem_cons_zero, List.getElem_cons_succ]
              refine wpAnyH_take (i := 3) (v := ?_) rfl (by kernel_rfl) (by kernel_rfl) (by kernel_rfl) (fun _ _ _ h => h) (Or.inl ⟨by rfl, ?_⟩) hHeld ?_
              rotate_left
              · intro u hSu
                obtain ⟨s0, s1⟩ := hSu
                go_simp
                try with_reducible rfl
              try simp only [Act.put, List.setIfInBounds_toArray, List.set_cons_zero, List.set_cons_succ, List.getElem_toArray, List.getElem_cons_zero, List.getElem_cons_succ]
              refine wpAnyH_take (i := 4) (v := ?_) rfl (by kernel_rfl) (by kernel_rfl) (by kernel_rfl) (fun _ _ _ h => h) (Or.inl ⟨by rfl, ?_⟩) hHeld ?_
              rotate_left
              · intro u hSu
                obtain ⟨s0, s1⟩ := hSu
                go_simp
                try with_reducible rfl
              try simp only [Act.put, List.setIfInBounds_toArray, List.set_cons_zero, List.set_cons_succ, List.getElem_toArray, List.getElem_cons_zero, List.getElem_cons_succ]
              refine wpAnyH_take (i := 5) (v := ?_) rfl (by kernel_rfl) (by kernel_rfl) (by kernel_rfl) (fun _ _ _ h => h) (Or.inl ⟨by rfl, ?_⟩) hHeld ?_
              rotate_left
              · intro u hSu
                obtain ⟨s0, s1⟩ := hSu
                go_simp
                try with_reducible rfl
              try simp only [Act.put, List.setIfInBounds_toArray, List.set_cons_zero, List.set_cons_succ, List.getElem_toArray, List.getElem_cons_zero, List.getElem_cons_succ]
              refine wpAnyH_take (i := 6) (v := ?_) rfl (by kernel_rfl) (by kernel_rfl) (by kernel_rfl) (fun _ _ _ h => h) (Or.inl ⟨by rfl, ?_⟩) hHeld ?_
              rotate_left
              · intro u hSu
                obtain ⟨s0, s1⟩ := hSu
                go_simp
                try with_reducible rfl
              try simp only [Act.put, List.setIfInBounds_toArray, List.set_cons_zero, List.set_cons_succ, List.getElem_toArray, List.getElem_cons_zero, List.getElem_cons_succ]
              refine wpAnyH_take (i := 7) (v := ?_) rfl (by kernel_rfl) (by kernel_rfl) (by kernel_rfl) (fun _ _ _ h => h) (Or.inl ⟨by rfl, ?_⟩) hHeld ?_
              rotate_left
              · intro u hSu
                obtain ⟨s0, s1⟩ := hSu
                go_simp
                try with_reducible rfl
              try simp only [Act.put, List.setIfInBounds_toArray, List.set_cons_zero, List.set_cons_succ, List.getElem_toArray, List.getElem_cons_zero, List.getElem_cons_succ]
              refine wpAnyH_take (i := 8) (v := ?_) rfl (by kernel_rfl) (by kernel_rfl) (by kernel_rfl) (fun _ _ _ h => h) (Or.inl ⟨by rfl, ?_⟩) hHeld ?_
              rotate_left
              · intro u hSu
                obtain ⟨s0, s1⟩ := hSu
                go_simp
                try with_reducible rfl
              try simp only [Act.put, List.setIfInBounds_toArray, List.set_cons_zero, List.set_cons_succ, List.getElem_toArray, List.getElem_cons_zero, List.getElem_cons_succ]
              refine wpAnyH_take (i := 9) (v := ?_) rfl (by kernel_rfl) (by kernel_rfl) (by kernel_rfl) (fun _ _ _ h => h) (Or.inl ⟨by rfl, ?_⟩) hHeld ?_
              rotate_left
              · intro u hSu
                obtain ⟨s0, s1⟩ := hSu
                go_simp
                try with_reducible rfl
              try simp only [Act.put, List.setIfInBounds_toArray, List.set_cons_zero, List.set_cons_succ, List.getElem_toArray, List.getElem_cons_zero, List.getElem_cons_succ]
              refine wpAnyH_take (i := 10) (v := ?_) rfl (by kernel_rfl) (by kernel_rfl) (by kernel_rfl) (fun _ _ _ h => h) (Or.inl ⟨by rfl, ?_⟩) hHeld ?_
              rotate_left
              · intro u hSu
                obtain ⟨s0, s1⟩ := hSu
                go_simp
                try with_reducible rfl
              try simp only [Act.put, List.setIfInBounds_toArray, List.set_cons_zero, List.set_cons_succ, List.getElem_toArray, List.getElem_cons_zero, List.getElem_cons_succ]
              refine wpAnyH_take (i := 11) (v := ?_) rfl (by kernel_rfl) (by kernel_rfl) (by kernel_rfl) (fun _ _ _ h => h) (Or.inl ⟨by rfl, ?_⟩) hHeld ?_
              rotate_left
              · intro u hSu
                obtain ⟨s0, s1⟩ := hSu
                go_simp
                try with_reducible rfl
              try simp only [Act.put, List.setIfInBounds_toArray, List.set_cons_zero, List.set_cons_succ, List.getElem_toArray, List.getElem_cons_zero, List.getElem_cons_succ]
              refine wpAnyH_take (i := 12) (v := ?_) rfl (by kernel_rfl) (by kernel_rfl) (by kernel_rfl) (fun _ _ _ h => h) (Or.inl ⟨by rfl, ?_⟩) hHeld ?_
              rotate_left
              · intro u hSu
                obtain ⟨s0, s1⟩ := hSu
                go_simp
                try with_reducible rfl
              try simp only [Act.put, List.setIfInBounds_toArray, List.set_cons_zero, List.set_cons_succ, List.getElem_toArray, List.getElem_cons_zero, List.getElem_cons_succ]
              refine wpAnyH_take (i := 13) (v := ?_) rfl (by kernel_rfl) (by kernel_rfl) (by kernel_rfl) (fun _ _ _ h => h) (Or.inl ⟨by rfl, ?_⟩) hHeld ?_
              rotate_left
              · intro u hSu
                obtain ⟨s0, s1⟩ := hSu
                go_simp
                try with_reducible rfl
              try simp only [Act.put, List.setIfInBounds_toArray, List.set_cons_zero, List.set_cons_succ, List.getElem_toArray, List.getElem_cons_zero, List.getElem_cons_succ]
              refine wpAnyH_done (by kernel_rfl) ?_ _
              show wpAny _ _ _ _ 3 _ _ _
              clear hHeld
              refine wpAny_take (i := 14) (v := ?_) rfl (by kernel_rfl) (by kernel_rfl) (by kernel_rfl) (fun _ _ _ h => h) (Or.inl ⟨by rfl, ?_⟩) ?_
              rotate_left
              · intro u
                go_simp
                try with_reducible rfl
              try simp only [Act.put, List.setIfInBounds_toArray, List.set_cons_zero, List.set_cons_succ, List.getElem_toArray, List.getElem_cons_zero, List.getElem_cons_succ]
              refine wpAny_take (i := 15) (v := ?_) rfl (by kernel_rfl) (by kernel_rfl) (by kernel_rfl) (fun _ _ _ h => h) (Or.inl ⟨by rfl, ?_⟩) ?_
              rotate_left
              · intro u
                go_simp
                try with_reducible rfl
              try simp only [Act.put, List.setIfInBounds_toArray, List.set_cons_zero, List.set_cons_succ, List.getElem_toArray, List.getElem_cons_zero, List.getElem_cons_succ]
              have y4 := (HSS.out _ (Below.refl _ _).drew).1
              have f4 := HFR.out
              refine wpAny_ready (rs := [16]) (by kernel_rfl) (by simp) ?_
              refine AllReady.cons rfl (fun K hK => ?_) AllReady.nil
              go_simp
              refine hK _ _ ?_
              clear hK K
              refine wpAny_done (by kernel_rfl) ?_ _
              have HOX : Hid (OwnK (wr.drew.setCell ⟨g, i * 3 + 1, none⟩ (.int .i64 (v - 16))) w2.heap.size 38 3 (.slice (some ⟨g, 0, none⟩) n cm) n (zsC (ms.set i { ms[i]'hms with v := v - 16 }))) := Lib.hid (by
                rw [zsC_setv hms]
                exact ((HO.out.up (Below.refl _ _).drew).set _))
              have HBX : Hid (Below w2.heap.size w2 (wr.drew.setCell ⟨g, i * 3 + 1, none⟩ (.int .i64 (v - 16)))) := Lib.hid ((below_all HB.out (Below.refl _ _).drew).setCell HGB.out _)
              have HEX := Lib.hid (HEO.out.set hms (nv := v - 16) hnv0 hnv1)
              clear y4 f4 HSS
              go_wp2_with fail
              go_roundg (n - (i + 1))
              case rel => exact ⟨i + 1, _, by omega, rfl, by go_num, HEX.out, HOX.out, HBX.out⟩
              case measure => have := HQ.out; omega
        · have d0 : decide (0 < f) = false := by simpa using hf0
          clear hf0
          go_wp2_with fail
          go_roundg (n - (i + 1))
          case rel => exact ⟨i + 1, ms, by omega, rfl, by go_num, HEO.out, HO.out, HB.out⟩
          case measure => have := HQ.out; omega
      · go_wp2_with fail
        go_roundg (n - (i + 1))
        case rel => exact ⟨i + 1, ms, by omega, rfl, by go_num, HEO.out, HO.out, HB.out⟩
        case measure => have := HQ.out; omega
    · obtain rfl : n = i := by omega
      obtain ⟨_, _, e, hncm, _, hzm⟩ := HO.out.form
      injection e with e1 e2 e3
      subst e1 e3
      have HRM := Lib.hid HO.out.rd
      have HRX := Lib.hid (HR2.out.up HB.out)
      have HNM : Hid (ms.length = n) := Lib.hid (by rw [HEO.out.len, HN.out])
      have HFM := Lib.hid (HEO.out.fit HF.out)
      have HAM := Lib.hid (HEO.out.apart HA.out)
      have HNCM := Lib.hid hncm
      have HZM := Lib.hid hzm
      have HEC := Lib.hid (VZ.ease_choose (extra := extra) hp1 HA.out HFM.out HAM.out HEO.out.len (fun i h => (HEO.out.le i h (by rw [HEO.out.len]; exact h)).2))
      clear e2 hncm hzm hlt
      go_wp2_with fail
      refine (O.choose 0 p extra l HN.out HRX.out HNC.out HZ.out hn24 hp1 hp2 he0 he1 HF.out HA.out HAG.out).mono ?_
      rintro r w5 ⟨v5, rfl, ho, hb⟩
      obtain ⟨was, hwas⟩ : ∃ x, VZ.chooseL 0 p extra l = x := ⟨_, rfl⟩
      rw [hwas] at HEC ho
      obtain ⟨k1, hk1⟩ : ∃ k, was.length = k := ⟨_, rfl⟩
      rw [hk1] at HEC ho
      obtain ⟨A5, c5, rfl, _, _, _⟩ := ho.form
      have HB5 := Lib.hid (below_all (below_all HB2.out HB.out) hb)
      have HRM5 := Lib.hid (HRM.out.up hb)
      have HK1 := Lib.hid hk1
      clear ho hb hwas hk1
      go_wp2_with fail
      refine (O.choose 0 p extra ms HNM.out HRM5.out HNCM.out HZM.out hn24 hp1 hp2 he0 he1 HFM.out HAM.out HEO.out.age).mono ?_
      rintro r w6 ⟨v6, rfl, ho, hb⟩
      obtain ⟨now, hnow⟩ : ∃ x, VZ.chooseL 0 p extra ms = x := ⟨_, rfl⟩
      rw [hnow] at HEC ho
      obtain ⟨k2, hk2⟩ : ∃ k, now.length = k := ⟨_, rfl⟩
      rw [hk2] at HEC ho
      obtain ⟨A6, c6, rfl, _, _, _⟩ := ho.form
      have HB6 := Lib.hid (below_all HB5.out hb)
      have HK2 := Lib.hid hk2
      clear ho hb hnow hk2
      by_cases hk0 : k1 = 0
      · have q0 : ((k1 : Int) == 0) = true := by simp [hk0]
        clear hk0
        go_wp2_with fail
        go_ret
        exact ⟨rfl, HB6.out⟩
      · have q0 : ((k1 : Int) == 0) = false := by simp; omega
        obtain ⟨hne, hle⟩ := HEC.out (fun e => hk0 (by rw [← HK1.out, e]; rfl))
        have h20 : 0 < k2 := by
          rw [← HK2.out]
          exact List.length_pos_iff.2 hne
        have d1 : decide ((0 : Int) < (k2 : Int)) = true := by simp; omega
        have d2 : decide ((k2 : Int) ≤ (k1 : Int)) = true := by simp; omega
        clear hk0 hne HEC
        go_wp2_with fail
        go_ret
        exact ⟨rfl, HB6.out⟩
end Go.Proofs.Ytndapbfaaglcgaa
