/-
  The document's ranking in memory: Touch.
-/
import Derived.Test.YtpocpeiiacgoaaaDoorLrQ
import Derived.Test.YtpocpeiiacgoaaaDoorPhase
import Derived.Deep.DeepCutAuto
namespace Go.Proofs.YtpocpeiiacgoaaaDoor
open Go.RowKit

/-- append of numbers that are read, onto a row of numbers of the call's own, as one step of a region that draws. -/
theorem stepI (w : World) {ops : Array Oper} {o : Oper} {a : Act} {K : Act → World → Prop} {Q : Exit → Act → World → Prop} {E : Prop} (hgd : o.guard = none) (s x : Operand) (ho : o.op = .call { callee := .builtin .append, args := #[s, x], argTypes := #[39, 39] })
    (base B g cap n m c : Nat) (ys xs : List Int) (A : Option Addr) (hs : a.eval s = .slice (some ⟨g, 0, none⟩) n cap) (hown : OwnG w base 3 g cap (iCells ys)) (hn : ys.length = n) (hx : a.eval x = .slice A m c) (hr : RdV w B A (iCells xs)) (hm : xs.length = m)
    (hlen : n + m ≤ 1000000) (hbase : base ≤ w.heap.size)
    (h : ∀ g' cap' w', OwnG w' base 3 g' cap' (iCells (ys ++ xs)) → w.grownBy w' (some g) → (g' = g ∨ g' = w.heap.size) → K (a.put o.dst (.slice (some ⟨g', 0, none⟩) (n + m) cap')) w') : if Region.wanted o (yielded ops a.tmps) = true then Oper.wp Tryd.prog o a w K Q else E := by
  rcases Nat.eq_zero_or_pos m with h0 | hp
  · subst h0
    have h0 : xs = [] := List.eq_nil_of_length_eq_zero hm
    subst h0
    have hc := hown.cap
    rw [iCells_len, hn] at hc
    have hw : Region.wanted o (yielded ops a.tmps) = true := by simp [Region.wanted, hgd]
    rw [if_pos hw]
    have hrun := append_zeroI w o.type (some ⟨g, 0, none⟩) A n cap c hc
    unfold Oper.wp
    simp [execOp, ho, resolve, invoke, builtin, hs, hx, hrun, Result.andThen]
    have := h g cap w (by rw [List.append_nil]; exact hown) (World.grownBy.refl w _) (.inl rfl)
    rwa [Nat.add_zero] at this
  · have hrow : 0 < (iCells xs).length := by rw [iCells_len]; omega
    obtain ⟨b, o', rfl, _, hc⟩ := hr hrow
    obtain ⟨i0, hi, hz0, hz1, hz2⟩ := info_parts intInfo
    subst hn hm
    refine step_append_lies w hgd s x 39 ho base 3 i0 (.int .i64 0) 1 8 Tryd.underlying39 hi hz0 hz1 hz2 rfl (by decide) _ ys.length (iCells ys) hs (by have := hown; unfold OwnG at this; rwa [iCells_len] at this) ⟨b, o', none⟩ xs.length c (iCells xs) hx (by simp [iCells]) (fun j u hj => ?_) iCells_one hp (by unfold maxLen; omega) (by omega) hbase w.heap.size rfl ?_
    · obtain ⟨hjl, rfl⟩ := List.getElem?_eq_some_iff.1 hj
      have := hc j hjl
      rcases j with _ | j
      · simpa [Addr.add] using this
      · simpa [Addr.add] using this
    · intro g' cap' w' h2 h3 h4 _
      refine h g' cap' w' ?_ h3 (h4.imp (fun e => (Option.some.inj e).symm) id)
      unfold OwnG
      rw [iCells_len, List.length_append]
      simpa [iCells] using h2

section
variable {w : World} {base rb : Nat} {S : RkS}
theorem rdv_take {w : World} {B : Nat} {A : Option Addr} {vs : List Value} (h : RdV w B A vs) (k : Nat) : RdV w B A (vs.take k) := by
  intro hn
  have hp : 0 < vs.length := by simp at hn; omega
  obtain ⟨b, o, hA, hb, hc⟩ := h hp
  refine ⟨b, o, hA, hb, fun i hi => ?_⟩
  rw [hc i (by simp at hi; omega)]
  simp
theorem RefC.conK {w1 w2 : World} {g cap m s : Nat} {vT vK : Value} {K : List Nat} (h : RefC w1 base rb vT vK S) (hK : S.K = K) (hb : Below w1.heap.size w1 w2) (hn : NatR w2 w1.heap.size g cap (s :: K)) (hm : (s :: K).length = m) :
    ∃ w3, w2.setCell ⟨rb, 1, none⟩ (.slice (some ⟨g, 0, none⟩) m cap) = w3 ∧ RefC w3 base rb vT (.slice (some ⟨g, 0, none⟩) m cap) ⟨S.T, s :: K, S.n⟩ ∧ Kept (fun k => k = rb) w1 w3 ∧ NatR w3 w1.heap.size g cap (s :: K) := by
  have h3 := h.newK hb hn (Nat.le_refl _) hm
  have hlt := lt_of_block h.1
  have hmem := hn.mem
  exact ⟨_, rfl, h3.1, h3.2, hn.keep (kept_put w2 rb 1 _) (by omega)⟩
set_option maxHeartbeats 4000000 in
set_option maxRecDepth 100000 in
theorem rtouch_at (x : Int) (h : RefM w base rb S) : Calls Tryd.prog 20 #[.pointer (some ⟨rb, 0, none⟩), .int .i64 x] w (RefTo base rb (S.has x) (S.touS x) w) := by
  have HR := Lib.hid (rremove_at x h)
  cases hx : S.has x with
  | false =>
    have HE : Hid (∀ w', RefTo base rb (S.has x) (S.remS x) w (.returned (.bool false)) w' → RefTo base rb false (S.touS x) w (.returned (.bool false)) w') := Lib.hid (fun w' ⟨_, b, c⟩ => by
      unfold RkS.remS at b
      unfold RkS.touS
      rw [hx] at b ⊢
      exact ⟨rfl, b, c⟩)
    rw [hx] at HR HE
    clear h hx
    go_enter Tryd.func20, Tryd.ntmps20
    go_wp2_with fail
    refine HR.out.mono ?_
    rintro r w' ⟨rfl, ht⟩
    have HT := Lib.hid ht
    clear ht
    go_wp2_with fail
    go_ret
    exact HE.out _ ⟨rfl, HT.out⟩
  | true =>
    have HW := Lib.hid (RkS.touS_wf h.2 x)
    obtain ⟨s, rfl, hs⟩ := RkS.has_some hx
    have hwf := h.2
    have hrem : S.remS (s : Int) = { S with T := butL S.T s, K := butL S.K s } := by
      unfold RkS.remS
      rw [if_pos hx]
      simp
    have htou : S.touS (s : Int) = RkS.demo { S with T := butL S.T s, K := s :: butL S.K s } := by
      unfold RkS.touS
      rw [if_pos hx]
      simp
    have hmid := RkS.touch_mid hwf hs
    have hlen := RkS.len_le hmid
    simp only [List.length_cons] at hlen
    have hn64 := hwf.n64
    rw [hx, hrem] at HR
    rw [htou] at HW ⊢
    obtain ⟨tl, htl⟩ : ∃ tl, (butL S.T s).length = tl := ⟨_, rfl⟩
    obtain ⟨kl, hkl⟩ : ∃ kl, (butL S.K s).length = kl := ⟨_, rfl⟩
    obtain ⟨n, hn⟩ : ∃ n, S.n = n := ⟨_, rfl⟩
    have HLN : Hid ((butL S.T s).length = tl ∧ (butL S.K s).length = kl ∧ tl + kl ≤ 63) := Lib.hid ⟨htl, hkl, by omega⟩
    have hkl63 : kl ≤ 63 := by omega
    have hn64' : n ≤ 64 := by omega
    rw [hn] at HR HW ⊢
    clear h hx hs hwf hrem htou hmid hlen hn64 htl hkl hn
    go_enter Tryd.func20, Tryd.ntmps20
    go_wp2_with fail
    refine HR.out.mono ?_
    rintro r w1 ⟨rfl, ⟨⟨vT, vK, hc1⟩, _⟩, hk1⟩
    obtain ⟨A, c, A2, c2, rfl, rfl⟩ := hc1.slices
    have HC1 := Lib.hid hc1
    have HK1 := Lib.hid hk1
    have HN2 : Hid (NatR (w1.alloc (.cells #[.int .i64 (s : Int)] 3)) w1.heap.size w1.heap.size 1 [s]) := Lib.hid (NatR.new w1 _ (Nat.le_refl _) [s] (by simp))
    have HB2 : Hid (Below w1.heap.size w1 (w1.alloc (.cells #[.int .i64 (s : Int)] 3))) := Lib.hid ((Below.refl _ _).alloc (Nat.le_refl _) _)
    have k1 := (HC1.out.up HB2.out).cells.2.1
    simp only [HLN.out.2.1] at k1
    have e2 : (1 : Int) + (kl : Int) - 1 = (kl : Int) := by omega
    clear hc1 hk1 HR
    go_wp2_with (first
      | (at_builtin; refine appI _ rfl (.tmp 12) (.tmp 16) rfl w1.heap.size w1.heap.size w1.heap.size 1 1 kl c2 [(s : Int)] (nats (butL S.K s)) A2 rfl HN2.out rfl rfl (HC1.out.2.2.1.rdI.1.below HB2.out) (by rw [nats_len]; exact HLN.out.2.1) (by omega) HB2.out.size ?_; intro g cap w2 ho hg hgg; have HO2 : Hid (NatR w2 w1.heap.size g cap (s :: butL S.K s)) := Lib.hid ho; have HBB2 := Lib.hid (HB2.out.grown hg HB2.out.size (fun e he => by have := Option.some.inj he; omega)); have f2 := (HC1.out.up HBB2.out).1.free 1; have k2 := (HC1.out.up HBB2.out).cells.2.1; obtain ⟨w3, hw3, hc3, hk3, hn3⟩ := HC1.out.conK rfl HBB2.out HO2.out (m := 1 + kl) (by have := HLN.out.2.1; simp; omega); have HN3 := Lib.hid hn3; have HK13 := Lib.hid (HK1.out.and hk3); have HC3 := Lib.hid hc3; clear ho hg hgg hn3 hk3 hc3; obtain ⟨q0, q1, q2⟩ := HC3.out.cells; simp only [HLN.out.1] at q0)
      | fail)
    by_cases hd : n / 2 < 1 + kl
    · go_cut [36] (fun s36 wx => s36 = .bool true ∧ Below w3.heap.size w3 wx)
      case first =>
        have hdd : ((n : Int) / 2 < 1 + (kl : Int)) := by omega
        go_quiet (fail)
        all_goals
          go_wp2_with fail
          go_meet
          case rel => exact ⟨rfl, below_drewN (Below.refl _ _) _⟩
      case rest =>
        obtain ⟨rfl, hb⟩ := hcut
        have HB5 := Lib.hid hb
        obtain ⟨z, hz⟩ : ∃ z, (s :: butL S.K s)[kl]'(by have := HLN.out.2.1; simp; omega) = z := ⟨_, rfl⟩
        have HSS : Hid (∀ u, Below w3.heap.size w3 u → u.cell? ⟨rb, 0, none⟩ = some (.slice A tl c) ∧ u.cell? ⟨rb, 1, none⟩ = some (.slice (some ⟨g, 0, none⟩) (1 + kl) cap) ∧ u.cell? ⟨g, kl, none⟩ = some (.int .i64 (z : Int))) := Lib.hid (fun u hu => by
          obtain ⟨z0, z1, _⟩ := (HC3.out.up hu).cells
          simp only [HLN.out.1] at z0
          refine ⟨z0, z1, ?_⟩
          rw [(HN3.out.up hu).cell kl (by have := HLN.out.2.1; simp; omega), hz])
        have HE : Hid (∀ (w' : World) vT vK, RefC w' base rb vT vK ⟨z :: butL S.T s, (s :: butL S.K s).take kl, n⟩ → Kept (fun k => k = rb) w w' → RefTo base rb true (RkS.demo ⟨butL S.T s, s :: butL S.K s, n⟩) w (.returned (.bool true)) w') := Lib.hid (fun w' vT vK hc hk => by
          have hl : (s :: butL S.K s).length = kl + 1 := by have := HLN.out.2.1; simp; omega
          have hW := HW.out
          unfold RkS.demo at hW ⊢
          rw [if_pos (by simp only [hl]; omega)] at hW ⊢
          simp only [List.dropLast_eq_take, hl, Nat.add_sub_cancel, List.getLast?_eq_getElem?, List.getElem?_eq_getElem (show kl < (s :: butL S.K s).length by omega), hz, Option.toList, List.singleton_append] at hW ⊢
          exact ⟨rfl, ⟨⟨vT, vK, hc⟩, hW⟩, hk⟩)
        have hcap : kl + 1 ≤ cap := by
          have := HN3.out.cap
          rw [iCells_len, nats_len] at this
          have := HLN.out.2.1
          simp at *
          omega
        have HGN : Hid (¬ g = rb) := Lib.hid (by have := HN3.out.mem.1; have := lt_of_block HC1.out.1; omega)
        have HLT : Hid ((nats ((s :: butL S.K s).take kl)).length = kl) := Lib.hid (by have := HLN.out.2.1; rw [nats_len, List.length_take]; simp; omega)
        have HLT2 : Hid (0 + kl ≤ 1000000) := Lib.hid (by omega)
        have HLN' : Hid ((butL S.T s).length = tl ∧ (butL S.K s).length = kl ∧ (z :: butL S.T s).length = 1 + tl ∧ 1 + tl ≤ 1000000) := Lib.hid ⟨HLN.out.1, HLN.out.2.1, by have := HLN.out.1; simp; omega, by have := HLN.out.2.2; omega⟩
        clear hz HLN hb
        have HLN := HLN'
        clear HLN'
        have e5 : (kl : Int) < 1 + (kl : Int) := by omega
        go_wp2_with fail
        refine wp_region_parts (S := fun u => u.cell? ⟨rb, 0, none⟩ = some (.slice A tl c) ∧ u.cell? ⟨rb, 1, none⟩ = some (.slice (some ⟨g, 0, none⟩) (1 + kl) cap) ∧ u.cell? ⟨g, kl, none⟩ = some (.int .i64 (z : Int))) 14 3 _ (by kernel_rfl) (by kernel_rfl) (by rfl) (by simp only [List.take_succ_cons, List.take_zero]; rfl) ?_ (fun hHeld => ?_)
        · exact HSS.out _ HB5.out.drew
        refine wpAnyH_take (i := 0) (v := ?_) rfl (by kernel_rfl) (by kernel_rfl) (by kernel_rfl) (fun _ _ _ h => h) (Or.inl ⟨by rfl, ?_⟩) hHeld ?_
        rotate_left
        · intro u hSu
          obtain ⟨s0, s1, s2⟩ := hSu
          go_simp
          try with_reducible rfl
        try simp only [Act.put, List.setIfInBounds_toArray, List.set_cons_zero, List.set_cons_succ, List.getElem_toArray, List.getElem_cons_zero, List.getElem_cons_succ]
        refine wpAnyH_take (i := 1) (v := ?_) rfl (by kernel_rfl) (by kernel_rfl) (by kernel_rfl) (fun _ _ _ h => h) (Or.inl ⟨by rfl, ?_⟩) hHeld ?_
        rotate_left
        · intro u hSu
          obtain ⟨s0, s1, s2⟩ := hSu
          go_simp
          try with_reducible rfl
        try simp only [Act.put, List.setIfInBounds_toArray, List.set_cons_zero, List.set_cons_succ, List.getElem_toArray, List.getElem_cons_zero, List.getElem_cons_succ]
        refine wpAnyH_take (i := 2) (v := ?_) rfl (by kernel_rfl) (by kernel_rfl) (by kernel_rfl) (fun _ _ _ h => h) (Or.inl ⟨by rfl, ?_⟩) hHeld ?_
        rotate_left
        · intro u hSu
          obtain ⟨s0, s1, s2⟩ := hSu
          go_simp
          try with_reducible rfl
        try simp only [Act.put, List.setIfInBounds_toArray, List.set_cons_zero, List.set_cons_succ, List.getElem_toArray, List.getElem_cons_zero, List.getElem_cons_succ]
        refine wpAnyH_take (i := 3) (v := ?_) rfl (by kernel_rfl) (by kernel_rfl) (by kernel_rfl) (fun _ _ _ h => h) (Or.inl ⟨by rfl, ?_⟩) hHeld ?_
        rotate_left
        · intro u hSu
          obtain ⟨s0, s1, s2⟩ := hSu
          go_simp
          try with_reducible rfl
        try simp only [Act.put, List.setIfInBounds_toArray, List.set_cons_zero, List.set_cons_succ, List.getElem_toArray, List.getElem_cons_zero, List.getElem_cons_succ]
        refine wpAnyH_take (i := 4) (v := ?_) rfl (by kernel_rfl) (by kernel_rfl) (by kernel_rfl) (fun _ _ _ h => h) (Or.inl ⟨by rfl, ?_⟩) hHeld ?_
        rotate_left
        · intro u hSu
          obtain ⟨s0, s1, s2⟩ := hSu
          go_simp
          try with_reducible rfl
        try simp only [Act.put, List.setIfInBounds_toArray, List.set_cons_zero, List.set_cons_succ, List.getElem_toArray, List.getElem_cons_zero, List.getElem_cons_succ]
        refine wpAnyH_take (i := 5) (v := ?_) rfl (by kernel_rfl) (by kernel_rfl) (by kernel_rfl) (fun _ _ _ h => h) (Or.inl ⟨by rfl, ?_⟩) hHeld ?_
        rotate_left
        · intro u hSu
          obtain ⟨s0, s1, s2⟩ := hSu
          go_simp
          try with_reducible rfl
        try simp only [Act.put, List.setIfInBounds_toArray, List.set_cons_zero, List.set_cons_succ, List.getElem_toArray, List.getElem_cons_zero, List.getElem_cons_succ]
        refine wpAnyH_take (i := 6) (v := ?_) rfl (by kernel_rfl) (by kernel_rfl) (by kernel_rfl) (fun _ _ _ h => h) (Or.inl ⟨by rfl, ?_⟩) hHeld ?_
        rotate_left
        · intro u hSu
          obtain ⟨s0, s1, s2⟩ := hSu
          go_simp
          try with_reducible rfl
        try simp only [Act.put, List.setIfInBounds_toArray, List.set_cons_zero, List.set_cons_succ, List.getElem_toArray, List.getElem_cons_zero, List.getElem_cons_succ]
        refine wpAnyH_take (i := 7) (v := ?_) rfl (by kernel_rfl) (by kernel_rfl) (by kernel_rfl) (fun _ _ _ h => h) (Or.inl ⟨by rfl, ?_⟩) hHeld ?_
        rotate_left
        · intro u hSu
          obtain ⟨s0, s1, s2⟩ := hSu
          go_simp
          try with_reducible rfl
        try simp only [Act.put, List.setIfInBounds_toArray, List.set_cons_zero, List.set_cons_succ, List.getElem_toArray, List.getElem_cons_zero, List.getElem_cons_succ]
        refine wpAnyH_take (i := 9) (v := ?_) rfl (by kernel_rfl) (by kernel_rfl) (by kernel_rfl) (fun _ _ _ h => h) (Or.inl ⟨by rfl, ?_⟩) hHeld ?_
        rotate_left
        · intro u hSu
          obtain ⟨s0, s1, s2⟩ := hSu
          go_simp
          try with_reducible rfl
        try simp only [Act.put, List.setIfInBounds_toArray, List.set_cons_zero, List.set_cons_succ, List.getElem_toArray, List.getElem_cons_zero, List.getElem_cons_succ]
        refine wpAnyH_take (i := 10) (v := ?_) rfl (by kernel_rfl) (by kernel_rfl) (by kernel_rfl) (fun _ _ _ h => h) (Or.inl ⟨by rfl, ?_⟩) hHeld ?_
        rotate_left
        · intro u hSu
          obtain ⟨s0, s1, s2⟩ := hSu
          go_simp
          try with_reducible rfl
        try simp only [Act.put, List.setIfInBounds_toArray, List.set_cons_zero, List.set_cons_succ, List.getElem_toArray, List.getElem_cons_zero, List.getElem_cons_succ]
        refine wpAnyH_take (i := 11) (v := ?_) rfl (by kernel_rfl) (by kernel_rfl) (by kernel_rfl) (fun _ _ _ h => h) (Or.inl ⟨by rfl, ?_⟩) hHeld ?_
        rotate_left
        · intro u hSu
          obtain ⟨s0, s1, s2⟩ := hSu
          go_simp
          try with_reducible rfl
        try simp only [Act.put, List.setIfInBounds_toArray, List.set_cons_zero, List.set_cons_succ, List.getElem_toArray, List.getElem_cons_zero, List.getElem_cons_succ]
        refine wpAnyH_take (i := 12) (v := ?_) rfl (by kernel_rfl) (by kernel_rfl) (by kernel_rfl) (fun _ _ _ h => h) (Or.inl ⟨by rfl, ?_⟩) hHeld ?_
        rotate_left
        · intro u hSu
          obtain ⟨s0, s1, s2⟩ := hSu
          go_simp
          try with_reducible rfl
        try simp only [Act.put, List.setIfInBounds_toArray, List.set_cons_zero, List.set_cons_succ, List.getElem_toArray, List.getElem_cons_zero, List.getElem_cons_succ]
        obtain ⟨w6, hw6⟩ : ∃ w6, wc.drew = w6 := ⟨_, rfl⟩
        have HB56 : Hid (Below w3.heap.size w3 w6) := Lib.hid (by rw [← hw6]; exact HB5.out.drew)
        rw [hw6] at hHeld ⊢
        clear hw6
        have HB6 : Hid (Below w3.heap.size w3 (w6.alloc (.cells #[.int .i64 (z : Int)] 3))) := Lib.hid (HB56.out.alloc HB56.out.size _)
        have HN6 : Hid (NatR (w6.alloc (.cells #[.int .i64 (z : Int)] 3)) w3.heap.size w6.heap.size 1 [z]) := Lib.hid (NatR.new w6 _ HB56.out.size [z] (by simp))
        refine wpAnyH_ready (rs := [8]) (by kernel_rfl) (by simp) ?_
        refine (AllReadyH.cons rfl (fun K hK => ?_) AllReadyH.nil)
        go_simp
        refine hK.out _ _ ?_ (fun hHeld2 => ?_)
        · exact HSS.out _ HB6.out
        clear hK K hHeld
        have hHeld := hHeld2
        clear hHeld2
        try simp only [Act.put, List.setIfInBounds_toArray, List.set_cons_zero, List.set_cons_succ, List.getElem_toArray, List.getElem_cons_zero, List.getElem_cons_succ]
        refine wpAnyH_ready (rs := [13]) (by kernel_rfl) (by simp) ?_
        refine (AllReadyH.cons rfl (fun K hK => ?_) AllReadyH.nil)
        (refine stepI (w6.alloc (.cells #[.int .i64 (z : Int)] 3)) (by rfl) (.tmp 45) (.tmp 49) (by rfl) w3.heap.size w3.heap.size w6.heap.size 1 1 tl c [(z : Int)] (nats (butL S.T s)) A (by rfl) HN6.out rfl (by rfl) (HC3.out.2.1.rdI.1.below HB6.out) (by rw [nats_len]; exact HLN.out.1) HLN.out.2.2.2 HB6.out.size ?_; intro g7 cap7 w7 ho hg hgg; have HO7 : Hid (NatR w7 w3.heap.size g7 cap7 (z :: butL S.T s)) := Lib.hid ho; have HB7 := Lib.hid (HB6.out.grown hg HB6.out.size (fun e he => by have := Option.some.inj he; have := HB56.out.size; omega)); have f7 := (HC3.out.up HB7.out).1.free 0; have k7 := (HC3.out.up HB7.out).cells.1; clear ho hg hgg)
        refine hK.out _ _ ?_ (fun hHeld2 => ?_)
        · exact HSS.out _ HB7.out
        clear hK K hHeld
        have hHeld := hHeld2
        clear hHeld2
        try simp only [Act.put, List.setIfInBounds_toArray, List.set_cons_zero, List.set_cons_succ, List.getElem_toArray, List.getElem_cons_zero, List.getElem_cons_succ]
        refine wpAnyH_done (by kernel_rfl) ?_ _
        show wpAny _ _ _ _ 3 _ _ _
        clear hHeld
        refine wpAny_take (i := 14) (v := ?_) rfl (by kernel_rfl) (by kernel_rfl) (by kernel_rfl) (fun _ _ _ h => h) (Or.inl ⟨by rfl, ?_⟩) ?_
        rotate_left
        · intro u
          go_simp
          try with_reducible rfl
        try simp only [Act.put, List.setIfInBounds_toArray, List.set_cons_zero, List.set_cons_succ, List.getElem_toArray, List.getElem_cons_zero, List.getElem_cons_succ]
        refine wpAny_take (i := 15) (v := ?_) rfl (by kernel_rfl) (by kernel_rfl) (by kernel_rfl) (fun _ _ _ h => h) (Or.inl ⟨by rfl, ?_⟩) ?_
        rotate_left
        · intro u
          go_simp
          try with_reducible rfl
        try simp only [Act.put, List.setIfInBounds_toArray, List.set_cons_zero, List.set_cons_succ, List.getElem_toArray, List.getElem_cons_zero, List.getElem_cons_succ]
        have hT8 := HC3.out.newT HB7.out HO7.out (Nat.le_refl _) (m := 1 + tl) HLN.out.2.2.1
        have HT8 := Lib.hid hT8.1
        have HK8 := Lib.hid (HK13.out.and hT8.2)
        have HN8 := Lib.hid ((HN3.out.up HB7.out).keep (kept_put w7 rb 0 (.slice (some ⟨g7, 0, none⟩) (1 + tl) cap7)) HGN.out)
        clear hT8
        refine wpAny_ready (rs := [16]) (by kernel_rfl) (by simp) ?_
        refine AllReady.cons rfl (fun K hK => ?_) AllReady.nil
        go_simp
        refine hK _ _ ?_
        clear hK K
        refine wpAny_done (by kernel_rfl) ?_ _
        obtain ⟨w8, hw8⟩ : ∃ w8, w7.setCell ⟨rb, 0, none⟩ (.slice (some ⟨g7, 0, none⟩) (1 + tl) cap7) = w8 := ⟨_, rfl⟩
        rw [hw8] at HT8 HK8 HN8
        try rw [hw8]
        clear hw8 f7 k7
        have HB9 : Hid (Below w8.heap.size w8 (w8.alloc (.cells #[] 3))) := Lib.hid ((Below.refl _ _).alloc (Nat.le_refl _) _)
        have HN9 : Hid (NatR (w8.alloc (.cells #[] 3)) w8.heap.size w8.heap.size 0 []) := Lib.hid (NatR.new w8 _ (Nat.le_refl _) [] (by simp))
        have r1 := (HT8.out.up HB9.out).cells.2.1
        have r2 : RdV w8 w8.heap.size (some ⟨g, 0, none⟩) (iCells (nats ((s :: butL S.K s).take kl))) := by
          have := rdv_take HN8.out.rd kl
          rwa [show (iCells (nats (s :: butL S.K s))).take kl = iCells (nats ((s :: butL S.K s).take kl)) by simp [iCells, nats, List.map_take]] at this
        have HR2 := Lib.hid r2
        clear r2
        go_wp2_with (first
          | (at_builtin; refine appI _ rfl (.tmp 54) (.tmp 60) rfl w8.heap.size w8.heap.size w8.heap.size 0 0 kl cap [] (nats ((s :: butL S.K s).take kl)) (some ⟨g, 0, none⟩) rfl HN9.out rfl rfl (HR2.out.below HB9.out) HLT.out HLT2.out HB9.out.size ?_; intro g10 cap10 w10 ho hg hgg; rw [Nat.zero_add, List.nil_append] at *; have HO10 : Hid (NatR w10 w8.heap.size g10 cap10 ((s :: butL S.K s).take kl)) := Lib.hid ho; have HB10 := Lib.hid (HB9.out.grown hg HB9.out.size (fun e he => by have := Option.some.inj he; omega)); have f10 := (HT8.out.up HB10.out).1.free 1; have k10 := (HT8.out.up HB10.out).cells.2.1; clear ho hg hgg)
          | fail)
        go_ret
        have hK := HT8.out.newK HB10.out HO10.out (Nat.le_refl _) (m := kl) (by have := HLT.out; rwa [nats_len] at this)
        exact HE.out _ _ _ hK.1 (HK8.out.and hK.2)
    · go_cut [36] (fun s36 wx => s36 = .bool false ∧ Below w3.heap.size w3 wx)
      case first =>
        have hdd : ¬ ((n : Int) / 2 < 1 + (kl : Int)) := by omega
        go_quiet (fail)
        all_goals
          go_wp2_with fail
          go_meet
          case rel => exact ⟨rfl, below_drewN (Below.refl _ _) _⟩
      case rest =>
        obtain ⟨rfl, hb⟩ := hcut
        have HW' := HW.out
        unfold RkS.demo at HW'
        rw [if_neg (by have := HLN.out.2.1; simp; omega)] at HW'
        have HE : Hid (RefTo base rb true (RkS.demo ⟨butL S.T s, s :: butL S.K s, n⟩) w (.returned (.bool true)) wc) := Lib.hid (by
          unfold RkS.demo
          rw [if_neg (by have := HLN.out.2.1; simp; omega)]
          exact ⟨rfl, ⟨⟨_, _, HC3.out.up hb⟩, HW'⟩, HK13.out.and (Kept.of_below hb)⟩)
        clear HW' hb
        go_wp2_with fail
        go_ret
        exact HE.out
end
end Go.Proofs.YtpocpeiiacgoaaaDoor
