/-
  Right: a range, and a search by a closure in what stands ahead.
-/
import Derived.Test.YtndapbfaaglcgaaVyF
import Derived.Test.YtndapbfaaglcgaaVcB
namespace Go.Proofs.Ytndapbfaaglcgaa
open Go.RowKit

/-- An Id stands among zones. -/
def hasL (id : Int) (l : List VZ) : Bool := l.any (fun z => z.id == id)
theorem hasL_step {id : Int} {l : List VZ} {k : Nat} (hk : k < l.length) (h : hasL id (l.take k) = false) (h2 : (l[k].id == id) = false) : hasL id (l.take (k + 1)) = false := by
  unfold hasL at *
  rw [List.take_succ_eq_append_getElem hk, List.any_append, h]
  simpa using h2
theorem hasL_yes {id : Int} {l : List VZ} {k : Nat} (hk : k < l.length) (h2 : (l[k].id == id) = true) : hasL id l = true := by
  unfold hasL
  exact List.any_eq_true.2 ⟨l[k], List.getElem_mem hk, h2⟩
theorem hasL_of {id : Int} {l : List VZ} (h : hasL id l = true) : ∃ (j : Nat) (hj : j < l.length), l[j].id = id := by
  unfold hasL at h
  obtain ⟨z, hz, e⟩ := List.any_eq_true.1 h
  obtain ⟨j, hj, rfl⟩ := List.getElem_of_mem hz
  exact ⟨j, hj, by simpa using e⟩
set_option maxHeartbeats 1000000 in
theorem vyhasc_at {ix vx id : Int} {ax g : Nat} (W : World) (k : W.cell? ⟨g, 0, none⟩ = some (.int .i64 id)) : Calls Try.prog 24 #[.agg #[.int .i64 ix, .int .i64 vx, .int .u32 (ax : Int)], .pointer (some ⟨g, 0, none⟩)] W (BoolB (ix == id) W) := by
  have hb1 : Below W.heap.size W (W.alloc (.cells #[.int .i64 ix, .int .i64 vx, .int .u32 (ax : Int)] 38)) := (Below.refl _ _).alloc (Nat.le_refl _) _
  have j1 := (hb1.cell (p := ⟨g, 0, none⟩) (World.block_lt_of_cell? W _ k)).trans k
  have HB := Lib.hid hb1
  clear hb1 k
  go_enter Try.func24, Try.ntmps24
  go_wp2_with fail
  go_ret
  exact ⟨rfl, HB.out⟩
/-- A number that is not below 0 just if something is. -/
def AtIs (t : Bool) (w : World) (r : Ending) (w' : World) : Prop := (∃ i : Int, r = .returned (.int .i64 i) ∧ decide (0 ≤ i) = t) ∧ Below w.heap.size w w'
set_option maxHeartbeats 2000000 in
set_option maxRecDepth 100000 in
theorem vyidx_at {w : World} {A : Option Addr} {n c g : Nat} (id : Int) (l : List VZ) (hl : l.length = n) (hr : RdV w w.heap.size A (zsC l)) (hn : n ≤ 1000) (k : w.cell? ⟨g, 0, none⟩ = some (.int .i64 id)) : Calls Try.prog 31 #[.slice A n c, .func (.func 24) #[] #[.pointer (some ⟨g, 0, none⟩)]] w (AtIs (hasL id l) w) := by
  have HR := Lib.hid hr
  have HN := Lib.hid hl
  have HK : Hid (∀ u, Below w.heap.size w u → u.cell? ⟨g, 0, none⟩ = some (.int .i64 id)) := Lib.hid (fun u hu => (hu.cell (p := ⟨g, 0, none⟩) (World.block_lt_of_cell? w _ k)).trans k)
  clear hr hl k
  go_enter Try.func31, Try.ntmps31
  go_wp2_with fail
  go_loopg [8] n (fun q y wr => ∃ i : Nat, i ≤ n ∧ q = n - i ∧ y = .int .i64 (i : Int) ∧ hasL id (l.take i) = false ∧ Below w.heap.size w wr)
  case atStart => exact ⟨0, by omega, rfl, rfl, by simp [hasL], Below.refl _ _⟩
  case round =>
    obtain ⟨i, hi, hq, rfl, hh, hb⟩ := hrel
    have HQ := Lib.hid hq
    have HH := Lib.hid hh
    have HB := Lib.hid hb
    clear hq hh hb
    by_cases hlt : i < n
    · have hll : i < l.length := by rw [HN.out]; exact hlt
      obtain ⟨b, o, rfl, _, hcell⟩ := (HR.out.below HB.out) (by rw [zsC_len, HN.out]; omega)
      obtain ⟨c0, c1, c2⟩ := z_cells hcell i hll
      have HST := Lib.hid (fun h => hasL_step hll HH.out h)
      have HYE := Lib.hid (fun h => hasL_yes (id := id) hll h)
      have HKK := Lib.hid (HK.out wr HB.out)
      obtain ⟨x, hx⟩ : ∃ x, l[i].id = x := ⟨_, rfl⟩
      obtain ⟨y, hy⟩ : ∃ y, l[i].v = y := ⟨_, rfl⟩
      obtain ⟨d, hd⟩ : ∃ d, l[i].age = d := ⟨_, rfl⟩
      rw [hx] at c0 HST HYE
      rw [hy] at c1
      rw [hd] at c2
      clear hcell hx hy hd
      go_wp2_with fail
      refine (vyhasc_at (ix := x) (vx := y) (ax := d) wr HKK.out).mono ?_
      rintro r w' ⟨rfl, hb⟩
      have HB2 := Lib.hid (below_all HB.out hb)
      clear hb c0 c1 c2
      obtain ⟨t, ht⟩ : ∃ t, (x == id) = t := ⟨_, rfl⟩
      rw [ht] at HST HYE ⊢
      clear ht
      cases t with
      | true =>
        have HE : Hid (AtIs (hasL id l) w (.returned (.int .i64 (i : Int))) w') := Lib.hid ⟨⟨_, rfl, by rw [HYE.out rfl]; simp⟩, HB2.out⟩
        go_wp2_with fail
        go_ret
        exact HE.out
      | false =>
        have HNX := Lib.hid (HST.out rfl)
        go_wp2_with fail
        go_roundg (n - (i + 1))
        case rel => exact ⟨i + 1, by omega, rfl, by go_num, HNX.out, HB2.out⟩
        case measure => have := HQ.out; omega
    · obtain rfl : i = n := by omega
      have hto : l.take i = l := List.take_of_length_le (by rw [HN.out]; exact Nat.le_refl _)
      rw [hto] at HH
      have HE : Hid (AtIs (hasL id l) w (.returned (.int .i64 (-1))) wr) := Lib.hid ⟨⟨_, rfl, by rw [HH.out]; rfl⟩, HB.out⟩
      clear hto
      go_wp2_with fail
      go_ret
      exact HE.out
set_option maxHeartbeats 1000000 in
theorem vyhasf_at {w : World} {A : Option Addr} {n c g : Nat} (id : Int) (l : List VZ) (hl : l.length = n) (hr : RdV w w.heap.size A (zsC l)) (hn : n ≤ 1000) (k : w.cell? ⟨g, 0, none⟩ = some (.int .i64 id)) : Calls Try.prog 23 #[.slice A n c, .func (.func 24) #[] #[.pointer (some ⟨g, 0, none⟩)]] w (BoolB (hasL id l) w) := by
  have HI := Lib.hid (vyidx_at (c := c) id l hl hr hn k)
  clear hl hr hn k
  go_enter Try.func23, Try.ntmps23
  go_wp2_with fail
  refine HI.out.mono ?_
  rintro r w' ⟨⟨i, rfl, ht⟩, hb⟩
  have HB := Lib.hid hb
  have HT := Lib.hid ht
  clear ht hb
  go_wp2_with fail
  go_ret
  exact ⟨ret_bool HT.out, HB.out⟩
set_option maxHeartbeats 1000000 in
theorem vyhas_at {w : World} {A : Option Addr} {n c : Nat} (id : Int) (l : List VZ) (hl : l.length = n) (hr : RdV w w.heap.size A (zsC l)) (hn : n ≤ 1000) : Calls Try.prog 18 #[.slice A n c, .int .i64 id] w (BoolB (hasL id l) w) := by
  have hb : Below w.heap.size w (w.alloc (.cells #[.int .i64 id] 3)) := (Below.refl _ _).alloc (Nat.le_refl _) _
  have HB1 := Lib.hid hb
  have HI := Lib.hid (vyhasf_at (c := c) (g := w.heap.size) id l hl (hr.up hb) hn (Blk.cell (T := 3) (cs := [.int .i64 id]) (heap_alloc_new _ _) 0 (by simp)))
  obtain ⟨w1, hw1⟩ : ∃ u, w.alloc (.cells #[.int .i64 id] 3) = u := ⟨_, rfl⟩
  rw [hw1] at HI HB1
  clear hl hr hn hb
  go_enter Try.func18, Try.ntmps18
  go_wp2_with fail
  refine HI.out.mono ?_
  rintro r w' ⟨rfl, hb⟩
  have HB := Lib.hid (below_all HB1.out hb)
  clear hb
  go_wp2_with fail
  go_ret
  exact ⟨rfl, HB.out⟩
set_option maxHeartbeats 4000000 in
set_option maxRecDepth 100000 in
theorem vyright_at {w : World} {A : Option Addr} {n c : Nat} (p : Int) (l : List VZ) (hl : l.length = n) (hr : RdV w w.heap.size A (zsC l)) (hnc : n ≤ c) (hz : A = none → c = 0) (hn : n ≤ 60) : Calls Try.prog 8 #[.int .i64 p, .slice A n c] w (BoolB (VZ.rightL p l) w) := by
  have HR := Lib.hid hr
  have HN := Lib.hid hl
  have HZ := Lib.hid hz
  have HNC := Lib.hid hnc
  clear hr hl hz hnc
  by_cases h24 : 24 < n
  · have d0 : decide ((24 : Int) < (n : Int)) = true := by simp; omega
    have HE : Hid (VZ.rightL p l = false) := Lib.hid (by
      unfold VZ.rightL
      simp only [decide_eq_false_iff_not]
      rintro ⟨_, _, h⟩
      have := HN.out
      omega)
    clear h24
    go_enter Try.func8, Try.ntmps8
    go_wp2_with fail
    go_ret
    exact ⟨ret_bool HE.out.symm, Below.refl _ _⟩
  have d0 : decide ((24 : Int) < (n : Int)) = false := by simp; omega
  have HS : Hid (n ≤ 24) := Lib.hid (by omega)
  clear h24
  go_enter Try.func8, Try.ntmps8
  go_wp2_with fail
  clear d0
  go_loopg [12] n (fun q y wr => ∃ i : Nat, i ≤ n ∧ q = n - i ∧ y = .int .i64 (i : Int) ∧ VZ.OkK p l i ∧ Below w.heap.size w wr)
  case atStart => exact ⟨0, by omega, rfl, rfl, VZ.OkK.zero p l, Below.refl _ _⟩
  case round =>
    obtain ⟨i, hi, hq, rfl, hok, hb⟩ := hrel
    have HQ := Lib.hid hq
    have HOK := Lib.hid hok
    have HB := Lib.hid hb
    clear hq hok hb
    by_cases hlt : i < n
    · have hil : i < l.length := by rw [HN.out]; exact hlt
      have HIL := Lib.hid hil
      have HRW := Lib.hid (HR.out.up HB.out)
      have HAX := Lib.hid HRW.out
      obtain ⟨b, o, rfl, hbl, hcell⟩ := (HR.out.below HB.out) (by rw [zsC_len, HN.out]; omega)
      obtain ⟨c0, c1, c2⟩ := z_cells hcell i hil
      obtain ⟨id, hid⟩ : ∃ x, (l[i]'hil).id = x := ⟨_, rfl⟩
      obtain ⟨v, hv⟩ : ∃ x, (l[i]'hil).v = x := ⟨_, rfl⟩
      obtain ⟨ag, hag⟩ : ∃ x, (l[i]'hil).age = x := ⟨_, rfl⟩
      have HID := Lib.hid hid
      have HV := Lib.hid hv
      have HNF : Hid (¬ (0 ≤ id ∧ 0 ≤ v ∧ v ≤ p) → VZ.rightL p l = false) := Lib.hid (fun h => VZ.not_fit hil (by rw [hid, hv]; exact h))
      rw [hid] at c0
      rw [hv] at c1
      rw [hag] at c2
      obtain ⟨w6, hw6⟩ : ∃ w6, wr.alloc (.cells #[.int .i64 id, .int .i64 v, .int .u32 (ag : Int)] 38) = w6 := ⟨_, rfl⟩
      have hb6 : Below wr.heap.size wr w6 := by rw [← hw6]; exact (Below.refl _ _).alloc (Nat.le_refl _) _
      have hx6 : Blk w6 wr.heap.size 38 [.int .i64 id, .int .i64 v, .int .u32 (ag : Int)] := by rw [← hw6]; exact heap_alloc_new wr _
      have HX6 := Lib.hid hx6
      have HB6 := Lib.hid (below_all HB.out hb6)
      obtain ⟨A3, k3, hcut1, _, hrd1⟩ := cut_head (w := wr) (Ts := 22) (k := 3) (n := n) (c := c) (j := i) he_vy hz_vy HAX.out HZ.out HNC.out (by omega)
      rw [zsC_take] at hrd1
      obtain ⟨g1, g2⟩ := hcut1
      have HRD := Lib.hid (fun u (hu : Below w6.heap.size w6 u) => hrd1 u (hb6.trans (hu.mono hb6.size)))
      obtain ⟨a, ha⟩ : ∃ a, wr.heap.size = a := ⟨_, rfl⟩
      have HA := Lib.hid ha
      rw [ha] at HX6
      have hti : (l.take i).length = i := by rw [List.length_take, HN.out]; omega
      have HHA := Lib.hid (fun u (hu : Below w6.heap.size w6 u) => vyhas_at (w := u) (A := A3) (n := i) (c := k3) id (l.take i) hti (HRD.out u hu) (by omega))
      have HTR : Hid (hasL id (l.take i) = true → VZ.rightL p l = false) := Lib.hid (fun h => by
        obtain ⟨j, hj, e⟩ := hasL_of h
        rw [List.getElem_take] at e
        exact VZ.not_apart hil (by rw [hti] at hj; exact hj) (e.trans hid.symm))
      have HFA : Hid (hasL id (l.take i) = false → 0 ≤ id → 0 ≤ v → v ≤ p → VZ.OkK p l (i + 1)) := Lib.hid (fun h e1 e2 e3 => HOK.out.next hil (by rw [hid]; exact e1) (by rw [hv]; exact e2) (by rw [hv]; exact e3) (fun j hj e => by
        have hjt : j < (l.take i).length := by rw [hti]; exact hj
        rw [hasL_yes (id := id) hjt (by rw [List.getElem_take]; simpa [hid] using e)] at h
        cases h))
      obtain ⟨hv9, hhv9⟩ : ∃ t, hasL id (l.take i) = t := ⟨_, rfl⟩
      rw [hhv9] at HHA HTR HFA
      have HUP : Hid (∀ {a b : World}, Below w6.heap.size w6 a → Below a.heap.size a b → Below w6.heap.size w6 b) := Lib.hid (fun h k => below_all h k)
      clear hid hv hag hb6 hx6 hrd1 hcell hti hhv9
      by_cases h1 : id < 0
      · have d1 : decide (id < 0) = true := by simpa using h1
        have HE := Lib.hid (HNF.out (by omega))
        clear HNF h1
        go_wp2_with fail
        clear hw6 c0 c1 c2
        refine wp_region_in (fun u => Below w6.heap.size w6 u) (Below.refl _ _).drew (by kernel_rfl) (by kernel_rfl) (fun ne => ?_)
        have y0 := fun m : In (fun u => Below w6.heap.size w6 u) => (HX6.out.up m.ok (lt_of_block HX6.out)).cell 0 (by simp)
        have y1 := fun m : In (fun u => Below w6.heap.size w6 u) => (HX6.out.up m.ok (lt_of_block HX6.out)).cell 1 (by simp)
        have HCL : Hid (∀ m : In (fun u => Below w6.heap.size w6 u), Calls Try.prog 18 #[.slice A3 i k3, .int .i64 id] m.w (fun e w' => e = .returned (.bool hv9) ∧ Below m.w.heap.size m.w w')) := Lib.hid (fun m => HHA.out m.w m.ok)
        repeat (go_big_quiet_step (first | (go_at_call 18; (with_reducible exact In.more HUP.out (HCL.out _)))))
        refine wpQuiet_nil ?_
        intro nq
        have HB9 := Lib.hid (below_all HB6.out nq.ok)
        clear y0 y1 g1 g2 HCL
        go_wp2_with fail
        go_ret
        exact ⟨ret_bool HE.out.symm, HB9.out⟩
      · have d1 : decide (id < 0) = false := by simpa using h1
        by_cases h2 : v < 0
        · have d2 : decide (v < 0) = true := by simpa using h2
          have HE := Lib.hid (HNF.out (by omega))
          clear HNF h1 h2
          go_wp2_with fail
          clear hw6 c0 c1 c2
          refine wp_region_in (fun u => Below w6.heap.size w6 u) (Below.refl _ _).drew (by kernel_rfl) (by kernel_rfl) (fun ne => ?_)
          have y0 := fun m : In (fun u => Below w6.heap.size w6 u) => (HX6.out.up m.ok (lt_of_block HX6.out)).cell 0 (by simp)
          have y1 := fun m : In (fun u => Below w6.heap.size w6 u) => (HX6.out.up m.ok (lt_of_block HX6.out)).cell 1 (by simp)
          have HCL : Hid (∀ m : In (fun u => Below w6.heap.size w6 u), Calls Try.prog 18 #[.slice A3 i k3, .int .i64 id] m.w (fun e w' => e = .returned (.bool hv9) ∧ Below m.w.heap.size m.w w')) := Lib.hid (fun m => HHA.out m.w m.ok)
          repeat (go_big_quiet_step (first | (go_at_call 18; (with_reducible exact In.more HUP.out (HCL.out _)))))
          refine wpQuiet_nil ?_
          intro nq
          have HB9 := Lib.hid (below_all HB6.out nq.ok)
          clear y0 y1 g1 g2 HCL
          go_wp2_with fail
          go_ret
          exact ⟨ret_bool HE.out.symm, HB9.out⟩
        · have d2 : decide (v < 0) = false := by simpa using h2
          by_cases h3 : p < v
          · have d3 : decide (p < v) = true := by simpa using h3
            have HE := Lib.hid (HNF.out (by omega))
            clear HNF h1 h2 h3
            go_wp2_with fail
            clear hw6 c0 c1 c2
            refine wp_region_in (fun u => Below w6.heap.size w6 u) (Below.refl _ _).drew (by kernel_rfl) (by kernel_rfl) (fun ne => ?_)
            have y0 := fun m : In (fun u => Below w6.heap.size w6 u) => (HX6.out.up m.ok (lt_of_block HX6.out)).cell 0 (by simp)
            have y1 := fun m : In (fun u => Below w6.heap.size w6 u) => (HX6.out.up m.ok (lt_of_block HX6.out)).cell 1 (by simp)
            have HCL : Hid (∀ m : In (fun u => Below w6.heap.size w6 u), Calls Try.prog 18 #[.slice A3 i k3, .int .i64 id] m.w (fun e w' => e = .returned (.bool hv9) ∧ Below m.w.heap.size m.w w')) := Lib.hid (fun m => HHA.out m.w m.ok)
            repeat (go_big_quiet_step (first | (go_at_call 18; (with_reducible exact In.more HUP.out (HCL.out _)))))
            refine wpQuiet_nil ?_
            intro nq
            have HB9 := Lib.hid (below_all HB6.out nq.ok)
            clear y0 y1 g1 g2 HCL
            go_wp2_with fail
            go_ret
            exact ⟨ret_bool HE.out.symm, HB9.out⟩
          · have d3 : decide (p < v) = false := by simpa using h3
            have HF1 : Hid (0 ≤ id) := Lib.hid (by omega)
            have HF2 : Hid (0 ≤ v) := Lib.hid (by omega)
            have HF3 : Hid (v ≤ p) := Lib.hid (by omega)
            clear HNF h1 h2 h3
            go_wp2_with fail
            clear hw6 c0 c1 c2
            refine wp_region_in (fun u => Below w6.heap.size w6 u) (Below.refl _ _).drew (by kernel_rfl) (by kernel_rfl) (fun ne => ?_)
            have y0 := fun m : In (fun u => Below w6.heap.size w6 u) => (HX6.out.up m.ok (lt_of_block HX6.out)).cell 0 (by simp)
            have y1 := fun m : In (fun u => Below w6.heap.size w6 u) => (HX6.out.up m.ok (lt_of_block HX6.out)).cell 1 (by simp)
            have HCL : Hid (∀ m : In (fun u => Below w6.heap.size w6 u), Calls Try.prog 18 #[.slice A3 i k3, .int .i64 id] m.w (fun e w' => e = .returned (.bool hv9) ∧ Below m.w.heap.size m.w w')) := Lib.hid (fun m => HHA.out m.w m.ok)
            repeat (go_big_quiet_step (first | (go_at_call 18; (with_reducible exact In.more HUP.out (HCL.out _)))))
            refine wpQuiet_nil ?_
            intro nq
            have HB9 := Lib.hid (below_all HB6.out nq.ok)
            clear y0 y1 g1 g2 HCL
            cases hv9 with
            | true =>
              have HE := Lib.hid (HTR.out rfl)
              go_wp2_with fail
              go_ret
              exact ⟨ret_bool HE.out.symm, HB9.out⟩
            | false =>
              have HE := Lib.hid (HFA.out rfl HF1.out HF2.out HF3.out)
              go_wp2_with fail
              go_roundg (n - (i + 1))
              case rel => exact ⟨i + 1, by omega, rfl, by go_num, HE.out, HB9.out⟩
              case measure => have := HQ.out; omega
    · obtain rfl : i = n := by omega
      have HE : Hid (VZ.rightL p l = true) := Lib.hid (by
        have h1 := HOK.out
        have h2 := HS.out
        rw [← HN.out] at h1 h2
        rw [VZ.OkK.all h1]
        exact decide_eq_true h2)
      go_wp2_with fail
      go_ret
      exact ⟨ret_bool HE.out.symm, HB.out⟩
end Go.Proofs.Ytndapbfaaglcgaa
