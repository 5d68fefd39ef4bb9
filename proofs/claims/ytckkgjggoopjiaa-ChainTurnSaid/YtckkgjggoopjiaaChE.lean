/-
  platelayerlaw14.ChainTurn answers true.
-/
import Derived.Test.YtckkgjggoopjiaaChD
import Derived.Test.YtckkgjggoopjiaaHand
namespace Go.Proofs.Ytckkgjggoopjiaa
open Go.RowKit

theorem he_h : Try.prog.underlying 23 = some (.slice (Try.prog.elem 23)) := by kernel_rfl
theorem hz_h : ∀ W : World, (sizeOf (Try.prog.elem 23)).run Try.prog W = .ok 4 W := by
  intro W
  have h : Try.prog.elem 23 = 34 := by kernel_rfl
  rw [h]
  simp [Try.sizeOf34]
theorem guard_h (x y : Operand) (xs ys : Array Value) (w : World) : (eqGuard .neq 34 x y (.agg xs) (.agg ys)).run Try.prog w = .ok () w := run_eqGuard_agg w .neq 34 x y xs ys (by kernel_rfl)
theorem neq_same (a b c d : Int) (w : World) : (binOp .neq 34 (.agg #[.int .u8 a, .int .u32 b, .int .u32 c, .int .u32 d]) (.agg #[.int .u8 a, .int .u32 b, .int .u32 c, .int .u32 d])).run Try.prog w = .ok (.bool false) w := by
  have hS : Try.prog.underlying 34 = some (.struct (Try.prog.fieldsOf 34)) := by kernel_rfl
  have hp : Try.prog.stoodInHeld 34 = false := by kernel_rfl
  have e : (Op.equalIn 10000 34 (.agg #[.int .u8 a, .int .u32 b, .int .u32 c, .int .u32 d]) (.agg #[.int .u8 a, .int .u32 b, .int .u32 c, .int .u32 d])).run Try.prog w = .ok true w := by
    rw [show (10000 : Nat) = 9999 + 1 from rfl, run_equalIn_agg w 9999 34 _ _ hS hp]
    simp only [Program.fieldsOf, Try.underlying34]
    simp [Op.eqFields, go_sem]
  rw [run_neq_struct, e]
  rfl
/-- Of the first i no two have one Seq. -/
def UqK (l : List HdS) (i : Nat) : Prop := ∀ a b (ha : a < l.length) (hb : b < a), a < i → (l[a]).q ≠ (l[b]'(by omega)).q
theorem UqK.next {l : List HdS} {i : Nat} {p : Int} (h : UqK l i) (hi : i < l.length) (hp : (l[i]).q = p) (hn : ∀ j (_ : j < i) (hj : j < l.length), (l[j]).q ≠ p) : UqK l (i + 1) := by
  intro a b ha hb hai
  by_cases e : a = i
  · subst e
    rw [hp]
    exact fun e2 => hn b hb (by omega) e2.symm
  · exact h a b ha hb (by omega)
set_option maxHeartbeats 8000000 in
set_option maxRecDepth 100000 in
theorem cnturn_true (O : COps) {w : World} (s q : Int) (q0 : 0 ≤ q) (q1 : q < 4294967296) (A : Option Addr) (n c : Nat) (l : List HdS) (hl : l.length = n) (hr : RdV w w.heap.size A (hsC l)) (hnc : n ≤ c) (hz : A = none → c = 0) (hb : SeqOk l) (t : Int) : Calls Try.prog 6 #[.int .u32 s, .int .u32 q, .slice A n c, .int .i64 t] w (BoolB true w) := by
  have HR := Lib.hid hr
  have HN := Lib.hid hl
  have HNC := Lib.hid hnc
  have HZ := Lib.hid hz
  have HSO := Lib.hid hb
  clear hr hl hnc hz hb
  go_enter Try.func6, Try.ntmps6
  go_wp2_with fail
  refine (cnawake_true O w).mono ?_
  rintro r w1 ⟨rfl, hb⟩
  have HB1 := Lib.hid hb
  clear hb
  by_cases hmm : 200 < n
  · have d : decide ((200 : Int) < (n : Int)) = true := by simp; omega
    go_wp2_with fail
    go_ret
    exact ⟨rfl, HB1.out⟩
  have d : decide ((200 : Int) < (n : Int)) = false := by simp; omega
  by_cases ht0 : t < 0
  · have d1 : decide (t < 0) = true := by simpa using ht0
    clear ht0
    go_wp2_with fail
    go_ret
    exact ⟨rfl, HB1.out⟩
  have d1 : decide (t < 0) = false := by simpa using ht0
  by_cases htn : (n : Int) < t
  · have d2 : decide ((n : Int) < t) = true := by simpa using htn
    clear htn ht0
    go_wp2_with fail
    go_ret
    exact ⟨rfl, HB1.out⟩
  have d2 : decide ((n : Int) < t) = false := by simpa using htn
  obtain ⟨t, rfl⟩ : ∃ m : Nat, t = (m : Int) := ⟨t.toNat, by omega⟩
  have HTN : Hid (t ≤ n) := Lib.hid (by omega)
  have hn : n ≤ 200 := by omega
  have htn2 : t ≤ n := HTN.out
  clear htn ht0 hmm
  go_wp2_with fail
  clear d d1 d2 htn2
  go_loopg [34] n (fun g y wr => ∃ i : Nat, i ≤ n ∧ g = n - i ∧ y = .int .i64 (i : Int) ∧ UqK l i ∧ Below w.heap.size w wr)
  case atStart => exact ⟨0, by omega, by omega, rfl, fun a b ha hb h => by omega, HB1.out⟩
  case round =>
    clear HB1
    obtain ⟨i, hi, hg, rfl, huq, hb⟩ := hrel
    have HG := Lib.hid hg
    have HUQ := Lib.hid huq
    have HB := Lib.hid hb
    clear hg huq hb
    by_cases hlt : i < n
    · have hil : i < l.length := by rw [HN.out]; exact hlt
      obtain ⟨bl, ol, rfl, _, hcl⟩ := (HR.out.up HB.out) (by rw [hsC_len, HN.out]; omega)
      obtain ⟨c0, c1, c2, c3⟩ := h_cells hcl i hil
      obtain ⟨k0, hk0⟩ : ∃ x, (l[i]'hil).k = x := ⟨_, rfl⟩
      obtain ⟨s0, hs0⟩ : ∃ x, (l[i]'hil).s = x := ⟨_, rfl⟩
      obtain ⟨i0, hi0⟩ : ∃ x, (l[i]'hil).i = x := ⟨_, rfl⟩
      obtain ⟨p0, hp0⟩ : ∃ x, (l[i]'hil).q = x := ⟨_, rfl⟩
      have HNXT := Lib.hid (fun h => HUQ.out.next hil hp0 h)
      rw [hk0] at c0
      rw [hs0] at c1
      rw [hi0] at c2
      rw [hp0] at c3
      have HRW := Lib.hid (HR.out.up HB.out)
      obtain ⟨w6, hw6⟩ : ∃ w6, wr.alloc (.cells #[.int .u8 k0, .int .u32 s0, .int .u32 i0, .int .u32 p0] 34) = w6 := ⟨_, rfl⟩
      have hb6 : Below wr.heap.size wr w6 := by rw [← hw6]; exact (Below.refl _ _).alloc (Nat.le_refl _) _
      have hx6 : Blk w6 wr.heap.size 34 [.int .u8 k0, .int .u32 s0, .int .u32 i0, .int .u32 p0] := by rw [← hw6]; exact heap_alloc_new wr _
      have HX6 := Lib.hid hx6
      have HB6 := Lib.hid (below_all HB.out hb6)
      obtain ⟨A3, k3, hcut1, _, hrd1⟩ := cut_head (w := wr) (Ts := 23) (k := 4) (n := n) (c := c) (j := i) he_h hz_h HRW.out HZ.out HNC.out (by omega)
      rw [hsC_take] at hrd1
      obtain ⟨g1, g2⟩ := hcut1
      have HRD := Lib.hid (hrd1 w6 hb6)
      obtain ⟨a, ha⟩ : ∃ a, wr.heap.size = a := ⟨_, rfl⟩
      rw [ha] at HX6
      clear hcl hil hk0 hs0 hi0 hp0 hb6 hx6 hrd1
      go_wp2_with fail
      clear g1 g2 c0 c1 c2 c3 hw6 ha
      go_loopg [43] i (fun g y wx => ∃ k : Nat, k ≤ i ∧ g = i - k ∧ y = .int .i64 (k : Int) ∧ (∀ j (_ : j < k) (hj : j < l.length), (l[j]).q ≠ p0) ∧ Below w6.heap.size w6 wx)
      case atStart => exact ⟨0, by omega, by omega, rfl, fun j hj _ => by omega, Below.refl _ _⟩
      case round =>
        obtain ⟨k, hk, hg, rfl, hne, hb⟩ := hrel
        have HG2 := Lib.hid hg
        have HNE := Lib.hid hne
        have HBX := Lib.hid hb
        clear hg hne hb
        by_cases hki : k < i
        · have hkl : k < l.length := by rw [HN.out]; omega
          have hkt : k < (l.take i).length := by rw [List.length_take, HN.out]; omega
          obtain ⟨b3, o3, rfl, hbl3, hcell3⟩ := (HRD.out.below HBX.out) (by rw [hsC_len]; omega)
          obtain ⟨e0, e1, e2, e3⟩ := h_cells hcell3 k hkt
          rw [List.getElem_take] at e0 e1 e2 e3
          have HNX : Hid ((l[k]'hkl).q ≠ p0 → ∀ j (_ : j < k + 1) (hj : j < l.length), (l[j]).q ≠ p0) := Lib.hid (fun e j hj hj2 => by
            by_cases ejk : j = k
            · subst ejk
              exact e
            · exact HNE.out j (by omega) hj2)
          obtain ⟨k1, hk1⟩ : ∃ x, (l[k]'hkl).k = x := ⟨_, rfl⟩
          obtain ⟨s1, hs1⟩ : ∃ x, (l[k]'hkl).s = x := ⟨_, rfl⟩
          obtain ⟨i1, hi1⟩ : ∃ x, (l[k]'hkl).i = x := ⟨_, rfl⟩
          obtain ⟨p1, hp1⟩ : ∃ x, (l[k]'hkl).q = x := ⟨_, rfl⟩
          rw [hk1] at e0
          rw [hs1] at e1
          rw [hi1] at e2
          rw [hp1] at e3 HNX
          obtain ⟨w8, hw8⟩ : ∃ w8, wr.alloc (.cells #[.int .u8 k1, .int .u32 s1, .int .u32 i1, .int .u32 p1] 34) = w8 := ⟨_, rfl⟩
          have hb8 : Below wr.heap.size wr w8 := by rw [← hw8]; exact (Below.refl _ _).alloc (Nat.le_refl _) _
          have hx8 : Blk w8 wr.heap.size 34 [.int .u8 k1, .int .u32 s1, .int .u32 i1, .int .u32 p1] := by rw [← hw8]; exact heap_alloc_new wr _
          have m3 := hx8.cell 3 (by simp)
          have z3 := (HX6.out.up (below_all HBX.out hb8) (lt_of_block HX6.out)).cell 3 (by simp)
          simp only [List.getElem_cons_zero, List.getElem_cons_succ] at m3 z3
          have HB8 := Lib.hid (below_all HBX.out hb8)
          obtain ⟨a8, ha8⟩ : ∃ a, wr.heap.size = a := ⟨_, rfl⟩
          rw [ha8] at m3
          clear hcell3 hk1 hs1 hi1 hp1 hkl hkt hb8 hx8 hbl3
          by_cases he : p0 = p1
          · have qq : (p0 == p1) = true := by simpa using he
            clear he HNX
            go_wp2_with fail
            go_ret
            exact ⟨rfl, below_all HB6.out HB8.out⟩
          · have HE := Lib.hid (HNX.out (fun e => he e.symm))
            have qq : (p0 == p1) = false := by simpa using he
            clear he HNX
            go_wp2_with fail
            go_roundg (i - (k + 1))
            case rel => exact ⟨k + 1, by omega, rfl, by go_num, HE.out, HB8.out⟩
            case measure => have := HG2.out; omega
        · obtain rfl : k = i := by omega
          have HE := Lib.hid (HNXT.out HNE.out)
          go_wp2_with fail
          go_roundg (n - (k + 1))
          case rel => exact ⟨k + 1, by omega, rfl, by go_num, HE.out, below_all HB6.out HBX.out⟩
          case measure => have := HG.out; omega
    · obtain rfl : i = n := by omega
      have HU : Hid (HdS.Uniq l) := Lib.hid (fun a b ha hb => HUQ.out a b ha hb (by rw [← HN.out]; exact ha))
      obtain ⟨n, rfl⟩ : ∃ m, m = i := ⟨_, rfl⟩
      obtain ⟨wl, rfl⟩ : ∃ u : World, u = wr := ⟨_, rfl⟩
      have HRL := Lib.hid (HR.out.up HB.out)
      obtain ⟨AT, cT, hcutT, hzT, hrdT⟩ := cut_tail (w := wl) (Ts := 23) (k := 4) (n := n) (c := c) (j := t) he_h hz_h HRL.out HZ.out (by rw [hsC_len, HN.out]) (by omega) HNC.out HTN.out
      obtain ⟨AH, cH, hcutH, hzH, hrdH⟩ := cut_head (w := wl) (Ts := 23) (k := 4) (n := n) (c := c) (j := t) he_h hz_h HRL.out HZ.out HNC.out HTN.out
      rw [hsC_drop] at hrdT
      rw [hsC_take] at hrdH
      have HRT := Lib.hid hrdT
      have HRH := Lib.hid hrdH
      have HAT := Lib.hid hzT
      have HAH := Lib.hid hzH
      obtain ⟨t1, t2⟩ := hcutT
      obtain ⟨h1, h2⟩ := hcutH
      have htn : t ≤ n := HTN.out
      clear hrdT hrdH hzT hzH HUQ HG hlt hi
      go_wp2_with fail
      refine wp_region_held_drew (S := fun u => Below wl.heap.size wl u) (by kernel_rfl) ((Below.refl _ _).drew) (fun hHeld => ?_)
      show wpAnyH _ _ _ _ _ 10 _ _ _
      refine wpAnyH_take (i := 1) (v := ?_) rfl (by kernel_rfl) (by kernel_rfl) (by kernel_rfl) (fun _ _ _ h => h) (Or.inl ⟨by rfl, ?_⟩) hHeld ?_
      rotate_left
      · intro u hSu
        obtain y1 := hSu
        go_simp
        try with_reducible rfl
      try simp only [Act.put, List.setIfInBounds_toArray, List.set_cons_zero, List.set_cons_succ, List.getElem_toArray, List.getElem_cons_zero, List.getElem_cons_succ]
      refine wpAnyH_take (i := 2) (v := ?_) rfl (by kernel_rfl) (by kernel_rfl) (by kernel_rfl) (fun _ _ _ h => h) (Or.inl ⟨by rfl, ?_⟩) hHeld ?_
      rotate_left
      · intro u hSu
        obtain y1 := hSu
        go_simp
        try with_reducible rfl
      try simp only [Act.put, List.setIfInBounds_toArray, List.set_cons_zero, List.set_cons_succ, List.getElem_toArray, List.getElem_cons_zero, List.getElem_cons_succ]
      refine wpAnyH_take (i := 3) (v := ?_) rfl (by kernel_rfl) (by kernel_rfl) (by kernel_rfl) (fun _ _ _ h => h) (Or.inl ⟨by rfl, ?_⟩) hHeld ?_
      rotate_left
      · intro u hSu
        obtain y1 := hSu
        go_simp
        try with_reducible rfl
      try simp only [Act.put, List.setIfInBounds_toArray, List.set_cons_zero, List.set_cons_succ, List.getElem_toArray, List.getElem_cons_zero, List.getElem_cons_succ]
      refine wpAnyH_take (i := 5) (v := ?_) rfl (by kernel_rfl) (by kernel_rfl) (by kernel_rfl) (fun _ _ _ h => h) (Or.inl ⟨by rfl, ?_⟩) hHeld ?_
      rotate_left
      · intro u hSu
        obtain y1 := hSu
        go_simp
        try with_reducible rfl
      try simp only [Act.put, List.setIfInBounds_toArray, List.set_cons_zero, List.set_cons_succ, List.getElem_toArray, List.getElem_cons_zero, List.getElem_cons_succ]
      refine wpAnyH_take (i := 6) (v := ?_) rfl (by kernel_rfl) (by kernel_rfl) (by kernel_rfl) (fun _ _ _ h => h) (Or.inl ⟨by rfl, ?_⟩) hHeld ?_
      rotate_left
      · intro u hSu
        obtain y1 := hSu
        go_simp
        try with_reducible rfl
      try simp only [Act.put, List.setIfInBounds_toArray, List.set_cons_zero, List.set_cons_succ, List.getElem_toArray, List.getElem_cons_zero, List.getElem_cons_succ]
      refine wpAnyH_take (i := 7) (v := ?_) rfl (by kernel_rfl) (by kernel_rfl) (by kernel_rfl) (fun _ _ _ h => h) (Or.inl ⟨by rfl, ?_⟩) hHeld ?_
      rotate_left
      · intro u hSu
        obtain y1 := hSu
        go_simp
        try with_reducible rfl
      try simp only [Act.put, List.setIfInBounds_toArray, List.set_cons_zero, List.set_cons_succ, List.getElem_toArray, List.getElem_cons_zero, List.getElem_cons_succ]
      obtain ⟨w6, hw6⟩ : ∃ w6, wl.drew = w6 := ⟨_, rfl⟩
      have HB6 : Hid (Below wl.heap.size wl w6) := Lib.hid (by rw [← hw6]; exact (Below.refl _ _).drew)
      rw [hw6] at hHeld ⊢
      clear hw6
      obtain ⟨w7, hw7⟩ : ∃ w7, w6.alloc (.cells #[] 34) = w7 := ⟨_, rfl⟩
      have hb7 : Below w6.heap.size w6 w7 := by rw [← hw7]; exact (Below.refl _ _).alloc (Nat.le_refl _) _
      have HB7 : Hid (Below wl.heap.size wl w7) := Lib.hid (below_all HB6.out hb7)
      have HO7 : Hid (OwnK w7 wl.heap.size 34 4 (.slice (some ⟨w6.heap.size, 0, none⟩) 0 0) 0 []) := Lib.hid (by rw [← hw7]; exact OwnK.new w6 _ _ 4 0 [] HB6.out.size rfl (by omega))
      clear hb7 HB6
      refine wpAnyH_ready (rs := [0]) (by kernel_rfl) (by simp) ?_
      refine (AllReadyH.cons rfl (fun K hK => ?_) AllReadyH.nil)
      go_simp
      try rw [hw7]
      refine hK.out _ _ ?_ (fun hHeld2 => ?_)
      · exact HB7.out
      clear hK K hHeld
      have hHeld := hHeld2
      clear hHeld2
      try simp only [Act.put, List.setIfInBounds_toArray, List.set_cons_zero, List.set_cons_succ, List.getElem_toArray, List.getElem_cons_zero, List.getElem_cons_succ]
      refine wpAnyH_ready (rs := [4]) (by kernel_rfl) (by simp) ?_
      refine (AllReadyH.cons rfl (fun K hK => ?_) AllReadyH.nil)
      (refine stepP w7 (by rfl) (.tmp 54) (.tmp 57) 23 34 (.agg #[.int .u8 0, .int .u32 0, .int .u32 0, .int .u32 0]) 4 16 (by rfl) Try.underlying23 cnInfo rfl (by decide) (by decide) wl.heap.size 0 (n - t) cT _ [] (hsC (l.drop t)) AT (by rfl) HO7.out (by rfl) (by rw [hsC_len, List.length_drop, HN.out]) (HRT.out _ HB7.out) HAT.out (hsC_one _) (by omega) HB7.out.size ?_; intro v8 w8 ho hg; rw [Nat.zero_add, List.nil_append] at ho; have HO8 := Lib.hid ho; have HB8 := Lib.hid (below_grown HB7.out hg (fun e he => HO7.out.own e he)); clear ho hg)
      refine hK.out _ _ ?_ (fun hHeld2 => ?_)
      · exact HB8.out
      clear hK K hHeld
      have hHeld := hHeld2
      clear hHeld2
      try simp only [Act.put, List.setIfInBounds_toArray, List.set_cons_zero, List.set_cons_succ, List.getElem_toArray, List.getElem_cons_zero, List.getElem_cons_succ]
      refine wpAnyH_ready (rs := [8]) (by kernel_rfl) (by simp) ?_
      refine (AllReadyH.cons rfl (fun K hK => ?_) AllReadyH.nil)
      (refine stepP w8 (by rfl) (.tmp 58) (.tmp 61) 23 34 (.agg #[.int .u8 0, .int .u32 0, .int .u32 0, .int .u32 0]) 4 16 (by rfl) Try.underlying23 cnInfo rfl (by decide) (by decide) wl.heap.size (n - t) t cH v8 (hsC (l.drop t)) (hsC (l.take t)) AH (by rfl) HO8.out (by rfl) (by rw [hsC_len, List.length_take, HN.out, Nat.min_eq_left (by omega)]) (HRH.out _ HB8.out) HAH.out (hsC_one _) (by omega) HB8.out.size ?_; intro v9 w9 ho hg; rw [← hsC_app, Nat.sub_add_cancel HTN.out] at ho; have HO9 := Lib.hid ho; have HB9 := Lib.hid (below_grown HB8.out hg (fun e he => HO8.out.own e he)); clear ho hg)
      refine hK.out _ _ ?_ (fun hHeld2 => ?_)
      · exact HB9.out
      clear hK K hHeld
      have hHeld := hHeld2
      clear hHeld2
      try simp only [Act.put, List.setIfInBounds_toArray, List.set_cons_zero, List.set_cons_succ, List.getElem_toArray, List.getElem_cons_zero, List.getElem_cons_succ]
      refine wpAnyH_take (i := 9) (v := ?_) rfl (by kernel_rfl) (by kernel_rfl) (by kernel_rfl) (fun _ _ _ h => h) (Or.inl ⟨by rfl, ?_⟩) hHeld ?_
      rotate_left
      · intro u hSu
        obtain y1 := hSu
        go_simp
        try with_reducible rfl
      try simp only [Act.put, List.setIfInBounds_toArray, List.set_cons_zero, List.set_cons_succ, List.getElem_toArray, List.getElem_cons_zero, List.getElem_cons_succ]
      refine wpAnyH_done (by kernel_rfl) ?_ _
      obtain ⟨AM, cM, rfl, hncM, _, hzM⟩ := HO9.out.form
      have HRM := Lib.hid HO9.out.rd
      have HNM := Lib.hid hncM
      have HZM := Lib.hid hzM
      have HBM := Lib.hid (below_all HB.out HB9.out)
      have HLM : Hid ((l.drop t ++ l.take t).length = n) := Lib.hid (by rw [List.length_append, List.length_drop, List.length_take, HN.out]; omega)
      have HSM : Hid (SeqOk (l.drop t ++ l.take t)) := Lib.hid (fun h hm => HSO.out h ((List.mem_append.1 hm).elim List.mem_of_mem_drop List.mem_of_mem_take))
      have HTU := Lib.hid (HdS.turn_same (s := s) (q := q) t HU.out)
      obtain ⟨lm, hlm⟩ : ∃ x, l.drop t ++ l.take t = x := ⟨_, rfl⟩
      rw [hlm] at HRM HLM HSM HTU
      clear hncM hzM HO9 HB9 HB8 HO8 HB7 HO7 HRT HRH HAT HAH t1 t2 h1 h2 HU hlm HB hHeld
      have HC1 := Lib.hid (O.of s q l HN.out (HR.out.up HBM.out) HNC.out HZ.out (by omega) HSO.out q0 q1)
      go_wp2_with fail
      refine HC1.out.mono ?_
      rintro r w10 ⟨A10, k10, rfl, hr10, _, _, hb⟩
      have HR10 := Lib.hid hr10
      have HB10 := Lib.hid (below_all HBM.out hb)
      have HRM10 := Lib.hid (HRM.out.up hb)
      clear hr10 hb HC1 HRM HBM
      have HC2 := Lib.hid (O.of s q lm HLM.out HRM10.out HNM.out HZM.out (by omega) HSM.out q0 q1)
      go_wp2_with fail
      refine HC2.out.mono ?_
      rintro r w11 ⟨A11, k11, rfl, hr11, _, _, hb⟩
      have HR11 := Lib.hid hr11
      have HS11 := Lib.hid (HR10.out.up hb)
      have HM11 := Lib.hid (HRM10.out.up hb)
      have HB11 := Lib.hid (below_all HB10.out hb)
      clear hr11 hb HC2 HR10 HRM10 HB10
      obtain ⟨ch1, hch1⟩ : ∃ x, HdS.chL s q l = x := ⟨_, rfl⟩
      obtain ⟨ch2, hch2⟩ : ∃ x, HdS.chL s q lm = x := ⟨_, rfl⟩
      rw [hch1, hch2] at HTU
      rw [hch1] at HS11 ⊢
      rw [hch2] at HR11 ⊢
      obtain ⟨m, hm⟩ : ∃ x, ch1.length = x := ⟨_, rfl⟩
      have HM1 := Lib.hid hm
      have HM2 : Hid (ch2.length = m) := Lib.hid (by rw [← HTU.out.1]; exact hm)
      rw [HM2.out, hm]
      have qm : ((m : Int) != (m : Int)) = false := by simp
      have HMB : Hid (m ≤ 200) := Lib.hid (by have := HdS.ch_len s q l; rw [hch1, hm, HN.out] at this; omega)
      have hmb := HMB.out
      clear hch1 hch2 hm
      go_wp2_with fail
      go_loopg [78] m (fun g y wx => ∃ k : Nat, k ≤ m ∧ g = m - k ∧ y = .int .i64 (k : Int) ∧ Below w11.heap.size w11 wx)
      case atStart => exact ⟨0, by omega, by omega, rfl, Below.refl _ _⟩
      case round =>
        obtain ⟨k, hk, hg, rfl, hb⟩ := hrel
        have HG := Lib.hid hg
        have HB := Lib.hid hb
        clear hg hb
        by_cases hkm : k < m
        · have hk1 : k < ch1.length := by rw [HM1.out]; exact hkm
          have hk2 : k < ch2.length := by rw [HM2.out]; exact hkm
          obtain ⟨h3, h4, he⟩ := HTU.out.2 k hk1 hk2
          obtain ⟨b1, o1, rfl, _, hcell1⟩ := (HS11.out.up HB.out) (by rw [iCells_len, nats_len, HM1.out]; omega)
          have y1 := i_cellN hcell1 k hk1
          obtain ⟨b2, o2, rfl, _, hcell2⟩ := (HR11.out.up HB.out) (by rw [iCells_len, nats_len, HM2.out]; omega)
          have y2 := i_cellN hcell2 k hk2
          obtain ⟨bl, ol, rfl, _, hcl⟩ := (HR.out.up (below_all HB11.out HB.out)) (by rw [hsC_len]; omega)
          obtain ⟨c0, c1, c2, c3⟩ := h_cells hcl _ h3
          obtain ⟨bm, om, rfl, _, hcm⟩ := (HM11.out.up HB.out) (by rw [hsC_len]; omega)
          obtain ⟨f0, f1, f2, f3⟩ := h_cells hcm _ h4
          rw [he] at c0 c1 c2 c3
          obtain ⟨k0, hk0⟩ : ∃ x, (lm[ch2[k]]'h4).k = x := ⟨_, rfl⟩
          obtain ⟨s0, hs0⟩ : ∃ x, (lm[ch2[k]]'h4).s = x := ⟨_, rfl⟩
          obtain ⟨i0, hi0⟩ : ∃ x, (lm[ch2[k]]'h4).i = x := ⟨_, rfl⟩
          obtain ⟨p0, hp0⟩ : ∃ x, (lm[ch2[k]]'h4).q = x := ⟨_, rfl⟩
          rw [hk0] at c0 f0
          rw [hs0] at c1 f1
          rw [hi0] at c2 f2
          rw [hp0] at c3 f3
          have h3n : ch1[k] < n := by rw [← HN.out]; exact h3
          have h4n : ch2[k] < n := by rw [← HLM.out]; exact h4
          obtain ⟨x1, hx1⟩ : ∃ x, ch1[k] = x := ⟨_, rfl⟩
          obtain ⟨x2, hx2⟩ : ∃ x, ch2[k] = x := ⟨_, rfl⟩
          rw [hx1] at c0 c1 c2 c3 y1 h3n
          rw [hx2] at f0 f1 f2 f3 y2 h4n
          have hgd := guard_h
          have hnq := neq_same k0 s0 i0 p0
          clear hcell1 hcell2 hcl hcm
          go_wp2_with fail
          go_region
          go_wp2_with fail
          go_roundg (m - (k + 1))
          case rel => exact ⟨k + 1, by omega, rfl, by go_num, HB.out.drew⟩
          case measure => have := HG.out; omega
        · go_wp2_with fail
          go_ret
          exact ⟨rfl, below_all HB11.out HB.out⟩
end Go.Proofs.Ytckkgjggoopjiaa
