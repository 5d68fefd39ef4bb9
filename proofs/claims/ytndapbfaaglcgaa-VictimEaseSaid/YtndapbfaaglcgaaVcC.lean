/-
  The document's Sorted.
-/
import Derived.Test.YtndapbfaaglcgaaVcB
import Derived.Test.YtndapbfaaglcgaaCutR
import Derived.Test.YtndapbfaaglcgaaHand
import Derived.Deep.RegionHeldLaw
namespace Go.Proofs.Ytndapbfaaglcgaa
open Go.RowKit

theorem while_is {α : Type} {p : α → Bool} : ∀ {o : List α} {k : Nat}, k ≤ o.length → (∀ j (hj : j < o.length), j < k → p o[j] = true) → (∀ hk : k < o.length, p o[k] = false) → o.takeWhile p = o.take k ∧ o.dropWhile p = o.drop k
  | [], k, h, _, _ => by simp
  | x :: o, 0, _, _, h => by
    have h0 : p x = false := h (by simp)
    simp [h0]
  | x :: o, k + 1, hk, ha, h => by
    have h0 : p x = true := ha 0 (by simp) (by omega)
    obtain ⟨i1, i2⟩ := while_is (o := o) (k := k) (by simpa using hk) (fun j hj hjk => ha (j + 1) (by simpa using hj) (by omega)) (fun hk' => h (by simpa using hk'))
    rw [List.takeWhile_cons, List.dropWhile_cons, h0]
    simp [i1, i2]
theorem ins_is {pol p : Int} {out : List VZ} {x : VZ} {k : Nat} (hk : k ≤ out.length) (h1 : ∀ j (hj : j < out.length), j < k → VZ.ahead pol p out[j] x = true) (h2 : ∀ hk : k < out.length, VZ.ahead pol p out[k] x = false) : VZ.insZ pol p out x = out.take k ++ x :: out.drop k := by
  obtain ⟨e1, e2⟩ := while_is (p := fun y => VZ.ahead pol p y x) hk h1 h2
  unfold VZ.insZ
  rw [e1, e2]
theorem ins_len (pol p : Int) (out : List VZ) (x : VZ) : (VZ.insZ pol p out x).length = out.length + 1 := by
  have := (VZ.ins_perm (pol := pol) (p := p) out x).length_eq
  simpa using this
theorem fold_next (pol p : Int) (l : List VZ) {i : Nat} (h : i < l.length) : (l.take (i + 1)).foldl (VZ.insZ pol p) [] = VZ.insZ pol p ((l.take i).foldl (VZ.insZ pol p) []) l[i] := by
  rw [List.take_succ_eq_append_getElem h, List.foldl_append]
  rfl
theorem he_ry : Try.prog.underlying 26 = some (.slice (Try.prog.elem 26)) := by kernel_rfl
theorem hz_ry : ∀ W : World, (sizeOf (Try.prog.elem 26)).run Try.prog W = .ok 3 W := by
  intro W
  have h : Try.prog.elem 26 = 42 := by kernel_rfl
  rw [h]
  simp [Try.sizeOf42]
/-- What the document's order asks of each zone. -/
def Mid (p : Int) (l : List VZ) : Prop := ∀ z ∈ l, 0 ≤ z.v ∧ z.v ≤ p ∧ z.age < 4294967296
set_option maxHeartbeats 4000000 in
set_option maxRecDepth 100000 in
theorem rysorted_at {w : World} {A : Option Addr} {n c : Nat} (pol p : Int) (l : List VZ) (hl : l.length = n) (hr : RdV w w.heap.size A (zsC l)) (hn : n ≤ 1000) (hp1 : 1 ≤ p) (hp : p ≤ 16) (hm : Mid p l) : Calls Try.prog 15 #[.int .i64 pol, .int .i64 p, .slice A n c] w (ZsIs 42 (VZ.sortZ pol p l) w) := by
  have HR := Lib.hid hr
  have HN := Lib.hid hl
  have HMM := Lib.hid hm
  have HP1 := Lib.hid hp1
  have HP2 := Lib.hid hp
  have HO0 : Hid (OwnK (w.alloc (.cells #[] 42)) w.heap.size 42 3 (.slice (some ⟨w.heap.size, 0, none⟩) 0 0) 0 []) := Lib.hid (OwnK.new w _ _ 3 0 [] (Nat.le_refl _) rfl (by omega))
  have HB0 : Hid (Below w.heap.size w (w.alloc (.cells #[] 42))) := Lib.hid ((Below.refl _ _).alloc (Nat.le_refl _) _)
  clear hr hl hm hp1 hp
  go_enter Try.func15, Try.ntmps15
  go_wp2_with fail
  go_loopg [7, 8] n (fun q x y wr => ∃ i e : Nat, i ≤ n ∧ q = n - i ∧ y = .int .i64 (i : Int) ∧ ((l.take i).foldl (VZ.insZ pol p) []).length = e ∧ e ≤ i ∧ OwnK wr w.heap.size 42 3 x e (zsC ((l.take i).foldl (VZ.insZ pol p) [])) ∧ Below w.heap.size w wr)
  case atStart => exact ⟨0, 0, by omega, rfl, rfl, rfl, by omega, by simpa [zsC] using HO0.out, HB0.out⟩
  case round =>
    clear HO0 HB0
    obtain ⟨i, e, hi, hq, rfl, he, hei, ho, hb⟩ := hrel
    have HQ0 := Lib.hid hq
    have HE := Lib.hid he
    have HO := Lib.hid ho
    have HB := Lib.hid hb
    clear hq he ho hb
    by_cases hlt : i < n
    · have hll : i < l.length := by rw [HN.out]; exact hlt
      obtain ⟨b, o, rfl, hbl, hcell⟩ := (HR.out.below HB.out) (by rw [zsC_len, HN.out]; omega)
      obtain ⟨c0, c1, c2⟩ := z_cells hcell i hll
      have HF := Lib.hid (fold_next pol p l hll)
      have HMX := Lib.hid (HMM.out (l[i]'hll) (List.getElem_mem hll))
      have HMO : Hid (Mid p ((l.take i).foldl (VZ.insZ pol p) [])) := Lib.hid (fun z hz => by
        have := (VZ.fold_perm (pol := pol) (p := p) (l.take i) []).mem_iff.1 hz
        rw [List.append_nil] at this
        exact HMM.out z (List.mem_of_mem_take this))
      obtain ⟨ix, hix⟩ : ∃ x, (l[i]'hll).id = x := ⟨_, rfl⟩
      obtain ⟨vx, hvx⟩ : ∃ x, (l[i]'hll).v = x := ⟨_, rfl⟩
      obtain ⟨ax, hax⟩ : ∃ x, (l[i]'hll).age = x := ⟨_, rfl⟩
      have hxs : l[i]'hll = ⟨ix, vx, ax⟩ := by rw [← hix, ← hvx, ← hax]
      rw [hxs] at c0 c1 c2 HF HMX
      obtain ⟨out, hout⟩ : ∃ o, (l.take i).foldl (VZ.insZ pol p) [] = o := ⟨_, rfl⟩
      rw [hout] at HE HO HF HMO
      have HIL : Hid ((VZ.insZ pol p out ⟨ix, vx, ax⟩).length = e + 1) := Lib.hid (by rw [ins_len, HE.out])
      have HSW : Hid (∀ u, Below wr.heap.size wr u → u.cell? ⟨b, o + i * 3, none⟩ = some (.int .i64 ix) ∧ u.cell? ⟨b, o + i * 3 + 1, none⟩ = some (.int .i64 vx) ∧ u.cell? ⟨b, o + i * 3 + 2, none⟩ = some (.int .u32 (ax : Int))) := Lib.hid (fun u hu => by
        have hb2 := Nat.lt_of_lt_of_le hbl HB.out.size
        exact ⟨(hu.cell (p := ⟨b, o + i * 3, none⟩) hb2).trans c0, (hu.cell (p := ⟨b, o + i * 3 + 1, none⟩) hb2).trans c1, (hu.cell (p := ⟨b, o + i * 3 + 2, none⟩) hb2).trans c2⟩)
      obtain ⟨A7, c7, rfl, hec, _, hz7⟩ := HO.out.form
      have HRO := Lib.hid HO.out.rd
      have HEC := Lib.hid hec
      have HZ7 := Lib.hid hz7
      clear hcell hix hvx hax hxs hout hec hz7 hll hbl c0 c1 c2
      go_wp2_with fail
      obtain ⟨wl, rfl⟩ : ∃ wl : World, wl = wr := ⟨_, rfl⟩
      go_loopg [9] e (fun q y wr => ∃ k : Nat, k ≤ e ∧ q = e - k ∧ y = .int .i64 (k : Int) ∧ (∀ j (hj : j < out.length), j < k → VZ.ahead pol p (out[j]'hj) ⟨ix, vx, ax⟩ = true) ∧ Below wl.heap.size wl wr)
      case atStart => exact ⟨0, by omega, by omega, rfl, fun j _ hj => by omega, Below.refl _ _⟩
      case round =>
        obtain ⟨k, hk, hq, rfl, hall, hb⟩ := hrel
        have HQ1 := Lib.hid hq
        have HALL := Lib.hid hall
        have HBX := Lib.hid hb
        clear hq hall hb
        by_cases hke : k < e
        · have hko : k < out.length := by rw [HE.out]; exact hke
          have HKO := Lib.hid hko
          have hlt1 : decide ((k : Int) < (e : Int)) = true := by simp; omega
          obtain ⟨b2, o2, rfl, hbl2, hcell2⟩ := HRO.out (by rw [zsC_len, HE.out]; omega)
          have HMK := Lib.hid (HMO.out (out[k]'hko) (List.getElem_mem hko))
          have HSK : Hid (∀ u, Below wl.heap.size wl u → u.cell? ⟨b2, o2 + k * 3, none⟩ = some (.int .i64 (out[k]'hko).id) ∧ u.cell? ⟨b2, o2 + k * 3 + 1, none⟩ = some (.int .i64 (out[k]'hko).v) ∧ u.cell? ⟨b2, o2 + k * 3 + 2, none⟩ = some (.int .u32 ((out[k]'hko).age : Int))) := Lib.hid (fun u hu => by
            obtain ⟨y0, y1, y2⟩ := z_cells hcell2 k hko
            exact ⟨(hu.cell (p := ⟨b2, o2 + k * 3, none⟩) hbl2).trans y0, (hu.cell (p := ⟨b2, o2 + k * 3 + 1, none⟩) hbl2).trans y1, (hu.cell (p := ⟨b2, o2 + k * 3 + 2, none⟩) hbl2).trans y2⟩)
          have HNX : Hid (VZ.ahead pol p (out[k]'hko) ⟨ix, vx, ax⟩ = true → ∀ j (hj : j < out.length), j < k + 1 → VZ.ahead pol p (out[j]'hj) ⟨ix, vx, ax⟩ = true) := Lib.hid (fun ht j hj hjk => by
            by_cases ejk : j = k
            · subst ejk
              exact ht
            · exact HALL.out j hj (by omega))
          have HIN : Hid (VZ.ahead pol p (out[k]'hko) ⟨ix, vx, ax⟩ = false → VZ.insZ pol p out ⟨ix, vx, ax⟩ = out.take k ++ ⟨ix, vx, ax⟩ :: out.drop k) := Lib.hid (fun hf => ins_is (by rw [HE.out]; exact hk) HALL.out (fun _ => hf))
          have HAH : Hid (∀ n : In (fun u => Below wr.heap.size wr u), Calls Try.prog 21 #[.int .i64 pol, .int .i64 p, .agg #[.int .i64 (out[k]'hko).id, .int .i64 (out[k]'hko).v, .int .u32 ((out[k]'hko).age : Int)], .agg #[.int .i64 ix, .int .i64 vx, .int .u32 (ax : Int)]] n.w (fun e w' => e = .returned (.bool (VZ.ahead pol p (out[k]'hko) ⟨ix, vx, ax⟩)) ∧ Below n.w.heap.size n.w w')) := Lib.hid (fun n => ryahead_at pol p (out[k]'hko) ⟨ix, vx, ax⟩ n.w HP1.out HP2.out HMK.out.1 HMK.out.2.1 HMX.out.1 HMX.out.2.1 HMK.out.2.2 HMX.out.2.2)
          obtain ⟨ah, hah⟩ : ∃ a, VZ.ahead pol p (out[k]'hko) ⟨ix, vx, ax⟩ = a := ⟨_, rfl⟩
          obtain ⟨ik, hik⟩ : ∃ x, (out[k]'hko).id = x := ⟨_, rfl⟩
          obtain ⟨vk, hvk⟩ : ∃ x, (out[k]'hko).v = x := ⟨_, rfl⟩
          obtain ⟨ak, hak⟩ : ∃ x, (out[k]'hko).age = x := ⟨_, rfl⟩
          rw [hah] at HAH HNX HIN
          rw [hik, hvk, hak] at HAH HSK
          have HC1 : Hid (∀ n : In (fun u => Below wr.heap.size wr u), (n.w.cell? ⟨b2, o2 + k * 3, none⟩ = some (.int .i64 ik) ∧ n.w.cell? ⟨b2, o2 + k * 3 + 1, none⟩ = some (.int .i64 vk) ∧ n.w.cell? ⟨b2, o2 + k * 3 + 2, none⟩ = some (.int .u32 (ak : Int)))) := Lib.hid (fun n => HSK.out _ (below_all HBX.out n.ok))
          have HC2 : Hid (∀ n : In (fun u => Below wr.heap.size wr u), (n.w.cell? ⟨b, o + i * 3, none⟩ = some (.int .i64 ix) ∧ n.w.cell? ⟨b, o + i * 3 + 1, none⟩ = some (.int .i64 vx) ∧ n.w.cell? ⟨b, o + i * 3 + 2, none⟩ = some (.int .u32 (ax : Int)))) := Lib.hid (fun n => HSW.out _ (below_all HBX.out n.ok))
          have HUP : Hid (∀ {a b : World}, Below wr.heap.size wr a → Below a.heap.size a b → Below wr.heap.size wr b) := Lib.hid (fun h k => below_all h k)
          clear hah hik hvk hak hcell2 hbl2 HMK hko
          go_wp2_with fail
          refine wp_region_in (fun u => Below wr.heap.size wr u) (Below.refl _ _).drew (by kernel_rfl) (by kernel_rfl) (fun ne => ?_)
          have d0 := fun n => (HC1.out n).1
          have d1 := fun n => (HC1.out n).2.1
          have d2 := fun n => (HC1.out n).2.2
          have g0 := fun n => (HC2.out n).1
          have g1 := fun n => (HC2.out n).2.1
          have g2 := fun n => (HC2.out n).2.2
          repeat (go_big_quiet_step (first
            | (go_at_call 21; (with_reducible exact In.more HUP.out (HAH.out _)))))
          refine wpQuiet_nil ?_
          intro nq
          have HBQ1 := Lib.hid (below_all HBX.out nq.ok)
          clear d0 d1 d2 g0 g1 g2 HC1 HC2 HAH HUP
          cases ah with
          | true =>
            have HN2 := Lib.hid (HNX.out rfl)
            clear HNX HIN
            go_wp2_with fail
            go_roundg (e - (k + 1))
            case rel => exact ⟨k + 1, by omega, rfl, by go_num, HN2.out, HBQ1.out⟩
            case measure => have := HQ1.out; omega
          | false =>
            have HINS := Lib.hid (HIN.out rfl)
            clear HNX HIN hlt1 hke
            obtain ⟨wq, hwq⟩ : ∃ u, nq.w = u := ⟨_, rfl⟩
            rw [hwq] at HBQ1 ⊢
            clear hwq
            have HBQ := Lib.hid (below_all HB.out HBQ1.out)
            have HSS := Lib.hid (fun u (hu : Below wq.heap.size wq u) => HSW.out u (below_all HBQ1.out hu))
            have HON : Hid (∀ u ∈ zsC [⟨ix, vx, ax⟩], u.oneCell' = true) := Lib.hid (zsC_one _)
            have hke' : k ≤ e := hk
            have HRQ := Lib.hid (HRO.out.up HBQ1.out)
            obtain ⟨A3, c3, hcut1, hz1, hrd1⟩ := cut_head (w := wq) (Ts := 26) (k := 3) (n := e) (c := c7) (j := k) he_ry hz_ry HRQ.out HZ7.out HEC.out hke'
            obtain ⟨A4, c4, hcut2, hz2, hrd2⟩ := cut_tail (w := wq) (Ts := 26) (k := 3) (n := e) (c := c7) (j := k) he_ry hz_ry HRQ.out HZ7.out (by rw [zsC_len, HE.out]) (by omega) HEC.out hke'
            rw [zsC_take] at hrd1
            rw [zsC_drop] at hrd2
            have HP : Hid ((∀ u, Below wq.heap.size wq u → RdV u u.heap.size A3 (zsC (out.take k))) ∧ (zsC (out.take k)).length = k * 3 ∧ (A3 = none → c3 = 0) ∧ ∀ u ∈ zsC (out.take k), u.oneCell' = true) := Lib.hid ⟨hrd1, by rw [zsC_len, List.length_take, HE.out]; omega, hz1, zsC_one _⟩
            have HQ : Hid ((∀ u, Below wq.heap.size wq u → RdV u u.heap.size A4 (zsC (out.drop k))) ∧ (zsC (out.drop k)).length = (e - k) * 3 ∧ (A4 = none → c4 = 0) ∧ ∀ u ∈ zsC (out.drop k), u.oneCell' = true) := Lib.hid ⟨hrd2, by rw [zsC_len, List.length_drop, HE.out], hz2, zsC_one _⟩
            obtain ⟨h1, h2⟩ := hcut1
            obtain ⟨h3, h4⟩ := hcut2
            clear hz1 hrd1 hz2 hrd2 HRQ
            have hin : i < n := hlt
            go_wp2_with fail
            refine wp_region_held_drew (S := fun u => u.cell? ⟨b, o + i * 3, none⟩ = some (.int .i64 ix) ∧ u.cell? ⟨b, o + i * 3 + 1, none⟩ = some (.int .i64 vx) ∧ u.cell? ⟨b, o + i * 3 + 2, none⟩ = some (.int .u32 (ax : Int))) (by kernel_rfl) (HSS.out _ (Below.refl _ _).drew) (fun hHeld => ?_)
            show wpAnyH _ _ _ _ _ 16 _ _ _
            refine wpAnyH_take (i := 1) (v := ?_) rfl (by kernel_rfl) (by kernel_rfl) (by kernel_rfl) (fun _ _ _ h => h) (Or.inl ⟨by rfl, ?_⟩) hHeld ?_
            rotate_left
            · intro u hSu
              obtain ⟨s0, s1, s2⟩ := hSu
              go_simp
              try with_reducible rfl
            try simp only [Act.put, List.setIfInBounds_toArray, List.set_cons_zero, List.set_cons_succ, List.getElem_toArray, List.getElem_cons_zero, List.getElem_cons_succ]
            refine wpAnyH_take (i := 2) (v := ?_) rfl (by kernel_rfl) (by kernel_rfl) (by kernel_rfl) (fun _ _ _ h => h) (Or.inl ⟨by rfl, ?_⟩) hHeld ?_
            rotate_left
            · intro u hSu
              obtain ⟨s0, s1, s2⟩ := hSu
              go_simp
              try with_reducible rfl
            try simp only [Act.put, List.setIfInBounds_toArray, List.set_cons_zero, List.set_cons_succ, List.getElem_toArray, List.getElem_cons_zero, List.getElem_cons_succ]
            refine wpAnyH_take (i := 3) (v := ?_) rfl (by kernel_rfl) (by kernel_rfl) (by kernel_rfl) (fun _ _ _ h => h) (Or.inl ⟨by rfl, ?_⟩) hHeld ?_
            rotate_left
            · intro u hSu
              obtain ⟨s0, s1, s2⟩ := hSu
              go_simp
              try with_reducible rfl
            try simp only [Act.put, List.setIfInBounds_toArray, List.set_cons_zero, List.set_cons_succ, List.getElem_toArray, List.getElem_cons_zero, List.getElem_cons_succ]
            refine wpAnyH_take (i := 5) (v := ?_) rfl (by kernel_rfl) (by kernel_rfl) (by kernel_rfl) (fun _ _ _ h => h) (Or.inl ⟨by rfl, ?_⟩) hHeld ?_
            rotate_left
            · intro u hSu
              obtain ⟨s0, s1, s2⟩ := hSu
              go_simp
              try with_reducible rfl
            try simp only [Act.put, List.setIfInBounds_toArray, List.set_cons_zero, List.set_cons_succ, List.getElem_toArray, List.getElem_cons_zero, List.getElem_cons_succ]
            refine wpAnyH_take (i := 6) (v := ?_) rfl (by kernel_rfl) (by kernel_rfl) (by kernel_rfl) (fun _ _ _ h => h) (Or.inl ⟨by rfl, ?_⟩) hHeld ?_
            rotate_left
            · intro u hSu
              obtain ⟨s0, s1, s2⟩ := hSu
              go_simp
              try with_reducible rfl
            try simp only [Act.put, List.setIfInBounds_toArray, List.set_cons_zero, List.set_cons_succ, List.getElem_toArray, List.getElem_cons_zero, List.getElem_cons_succ]
            refine wpAnyH_take (i := 7) (v := ?_) rfl (by kernel_rfl) (by kernel_rfl) (by kernel_rfl) (fun _ _ _ h => h) (Or.inl ⟨by rfl, ?_⟩) hHeld ?_
            rotate_left
            · intro u hSu
              obtain ⟨s0, s1, s2⟩ := hSu
              go_simp
              try with_reducible rfl
            try simp only [Act.put, List.setIfInBounds_toArray, List.set_cons_zero, List.set_cons_succ, List.getElem_toArray, List.getElem_cons_zero, List.getElem_cons_succ]
            refine wpAnyH_take (i := 8) (v := ?_) rfl (by kernel_rfl) (by kernel_rfl) (by kernel_rfl) (fun _ _ _ h => h) (Or.inl ⟨by rfl, ?_⟩) hHeld ?_
            rotate_left
            · intro u hSu
              obtain ⟨s0, s1, s2⟩ := hSu
              go_simp
              try with_reducible rfl
            try simp only [Act.put, List.setIfInBounds_toArray, List.set_cons_zero, List.set_cons_succ, List.getElem_toArray, List.getElem_cons_zero, List.getElem_cons_succ]
            refine wpAnyH_take (i := 11) (v := ?_) rfl (by kernel_rfl) (by kernel_rfl) (by kernel_rfl) (fun _ _ _ h => h) (Or.inl ⟨by rfl, ?_⟩) hHeld ?_
            rotate_left
            · intro u hSu
              obtain ⟨s0, s1, s2⟩ := hSu
              go_simp
              try with_reducible rfl
            try simp only [Act.put, List.setIfInBounds_toArray, List.set_cons_zero, List.set_cons_succ, List.getElem_toArray, List.getElem_cons_zero, List.getElem_cons_succ]
            refine wpAnyH_take (i := 12) (v := ?_) rfl (by kernel_rfl) (by kernel_rfl) (by kernel_rfl) (fun _ _ _ h => h) (Or.inl ⟨by rfl, ?_⟩) hHeld ?_
            rotate_left
            · intro u hSu
              obtain ⟨s0, s1, s2⟩ := hSu
              go_simp
              try with_reducible rfl
            try simp only [Act.put, List.setIfInBounds_toArray, List.set_cons_zero, List.set_cons_succ, List.getElem_toArray, List.getElem_cons_zero, List.getElem_cons_succ]
            refine wpAnyH_take (i := 13) (v := ?_) rfl (by kernel_rfl) (by kernel_rfl) (by kernel_rfl) (fun _ _ _ h => h) (Or.inl ⟨by rfl, ?_⟩) hHeld ?_
            rotate_left
            · intro u hSu
              obtain ⟨s0, s1, s2⟩ := hSu
              go_simp
              try with_reducible rfl
            try simp only [Act.put, List.setIfInBounds_toArray, List.set_cons_zero, List.set_cons_succ, List.getElem_toArray, List.getElem_cons_zero, List.getElem_cons_succ]
            obtain ⟨w6, hw6⟩ : ∃ w6, wq.drew = w6 := ⟨_, rfl⟩
            have HB6 : Hid (Below wq.heap.size wq w6) := Lib.hid (by rw [← hw6]; exact (Below.refl _ _).drew)
            rw [hw6] at hHeld ⊢
            clear hw6
            refine wpAnyH_ready (rs := [0, 9]) (by kernel_rfl) (by simp) ?_
            refine (AllReadyH.cons rfl (fun K hK => ?_) (AllReadyH.cons rfl (fun K hK => ?_) AllReadyH.nil))
            · obtain ⟨wo, hwo⟩ : ∃ u, w6.alloc (.cells #[] 42) = u := ⟨_, rfl⟩
              have hbo : Below w6.heap.size w6 wo := by rw [← hwo]; exact (Below.refl _ _).alloc (Nat.le_refl _) _
              have HBo : Hid (Below wq.heap.size wq wo) := Lib.hid (below_all HB6.out hbo)
              have HOo : Hid (OwnK wo wq.heap.size 42 3 (.slice (some ⟨w6.heap.size, 0, none⟩) 0 0) 0 []) := Lib.hid (by rw [← hwo]; exact OwnK.new w6 _ _ 3 0 [] HB6.out.size rfl (by omega))
              go_simp
              try rw [hwo]
              refine hK.out _ _ ?_ (fun hHeld2 => ?_)
              · exact HSS.out _ HBo.out
              clear hK K hHeld
              have hHeld := hHeld2
              clear hHeld2
              try simp only [Act.put, List.setIfInBounds_toArray, List.set_cons_zero, List.set_cons_succ, List.getElem_toArray, List.getElem_cons_zero, List.getElem_cons_succ]
              refine wpAnyH_ready (rs := [4, 9]) (by kernel_rfl) (by simp) ?_
              refine (AllReadyH.cons rfl (fun K hK => ?_) (AllReadyH.cons rfl (fun K hK => ?_) AllReadyH.nil))
              · (refine stepP wo (by rfl) (.tmp 36) (.tmp 39) 26 42 (.agg #[.int .i64 0, .int .i64 0, .int .u32 0]) 3 24 (by rfl) Try.underlying26 ryInfo rfl (by decide) (by decide) wq.heap.size 0 k c3 _ [] (zsC (out.take k)) A3 (by rfl) HOo.out (by rfl) (HP.out.2.1) (HP.out.1 _ HBo.out) HP.out.2.2.1 (HP.out.2.2.2) (by omega) HBo.out.size ?_; intro v8 w8 ho hg; rw [Nat.zero_add, List.nil_append] at ho; have HO8 := Lib.hid ho; have HB8 := Lib.hid (below_grown HBo.out hg (fun e he => HOo.out.own e he)); clear ho hg)
                refine hK.out _ _ ?_ (fun hHeld2 => ?_)
                · exact HSS.out _ HB8.out
                clear hK K hHeld
                have hHeld := hHeld2
                clear hHeld2
                try simp only [Act.put, List.setIfInBounds_toArray, List.set_cons_zero, List.set_cons_succ, List.getElem_toArray, List.getElem_cons_zero, List.getElem_cons_succ]
                obtain ⟨wx, hwx⟩ : ∃ u, w8.alloc (.cells #[.int .i64 ix, .int .i64 vx, .int .u32 (ax : Int)] 42) = u := ⟨_, rfl⟩
                have hbx : Below w8.heap.size w8 wx := by rw [← hwx]; exact (Below.refl _ _).alloc (Nat.le_refl _) _
                have HBx : Hid (Below wq.heap.size wq wx) := Lib.hid (below_all HB8.out hbx)
                have HXx : Hid (RdV wx wx.heap.size (some ⟨w8.heap.size, 0, none⟩) (zsC [⟨ix, vx, ax⟩])) := Lib.hid (by rw [← hwx]; exact new_rd w8 42 (zsC [⟨ix, vx, ax⟩]))
                have HO8x := Lib.hid (HO8.out.up hbx)
                clear hbx
                refine wpAnyH_ready (rs := [9]) (by kernel_rfl) (by simp) ?_
                refine (AllReadyH.cons rfl (fun K hK => ?_) AllReadyH.nil)
                go_simp
                try rw [hwx]
                refine hK.out _ _ ?_ (fun hHeld2 => ?_)
                · exact HSS.out _ HBx.out
                clear hK K hHeld
                have hHeld := hHeld2
                clear hHeld2
                try simp only [Act.put, List.setIfInBounds_toArray, List.set_cons_zero, List.set_cons_succ, List.getElem_toArray, List.getElem_cons_zero, List.getElem_cons_succ]
                refine wpAnyH_ready (rs := [10]) (by kernel_rfl) (by simp) ?_
                refine (AllReadyH.cons rfl (fun K hK => ?_) AllReadyH.nil)
                (refine stepP wx (by rfl) (.tmp 40) (.tmp 45) 26 42 (.agg #[.int .i64 0, .int .i64 0, .int .u32 0]) 3 24 (by rfl) Try.underlying26 ryInfo rfl (by decide) (by decide) wq.heap.size k 1 1 v8 (zsC (out.take k)) (zsC [⟨ix, vx, ax⟩]) (some ⟨w8.heap.size, 0, none⟩) (by rfl) HO8x.out (by rfl) (by rfl) HXx.out (fun e => (by cases e)) HON.out (by omega) HBx.out.size ?_; intro v9 w9 ho hg; have HO9 := Lib.hid ho; have HB9 := Lib.hid (below_grown HBx.out hg (fun e he => HO8x.out.own e he)); clear ho hg)
                refine hK.out _ _ ?_ (fun hHeld2 => ?_)
                · exact HSS.out _ HB9.out
                clear hK K hHeld
                have hHeld := hHeld2
                clear hHeld2
                try simp only [Act.put, List.setIfInBounds_toArray, List.set_cons_zero, List.set_cons_succ, List.getElem_toArray, List.getElem_cons_zero, List.getElem_cons_succ]
                refine wpAnyH_ready (rs := [14]) (by kernel_rfl) (by simp) ?_
                refine (AllReadyH.cons rfl (fun K hK => ?_) AllReadyH.nil)
                (refine stepP w9 (by rfl) (.tmp 46) (.tmp 49) 26 42 (.agg #[.int .i64 0, .int .i64 0, .int .u32 0]) 3 24 (by rfl) Try.underlying26 ryInfo rfl (by decide) (by decide) wq.heap.size (k + 1) (e - k) c4 v9 ((zsC (out.take k)) ++ (zsC [⟨ix, vx, ax⟩])) (zsC (out.drop k)) A4 (by rfl) HO9.out (by rfl) (HQ.out.2.1) (HQ.out.1 _ HB9.out) HQ.out.2.2.1 (HQ.out.2.2.2) (by omega) HB9.out.size ?_; intro vT wT ho hg; have HOT := Lib.hid ho; have HBT := Lib.hid (below_grown HB9.out hg (fun e he => HO9.out.own e he)); clear ho hg)
                refine hK.out _ _ ?_ (fun hHeld2 => ?_)
                · exact HSS.out _ HBT.out
                clear hK K hHeld
                have hHeld := hHeld2
                clear hHeld2
                try simp only [Act.put, List.setIfInBounds_toArray, List.set_cons_zero, List.set_cons_succ, List.getElem_toArray, List.getElem_cons_zero, List.getElem_cons_succ]
                refine wpAnyH_take (i := 15) (v := ?_) rfl (by kernel_rfl) (by kernel_rfl) (by kernel_rfl) (fun _ _ _ h => h) (Or.inl ⟨by rfl, ?_⟩) hHeld ?_
                rotate_left
                · intro u hSu
                  obtain ⟨s0, s1, s2⟩ := hSu
                  go_simp
                  try with_reducible rfl
                try simp only [Act.put, List.setIfInBounds_toArray, List.set_cons_zero, List.set_cons_succ, List.getElem_toArray, List.getElem_cons_zero, List.getElem_cons_succ]
                refine wpAnyH_done (by kernel_rfl) ?_ _
                have HOX : Hid (OwnK wT w.heap.size 42 3 vT (e + 1) (zsC (VZ.insZ pol p out ⟨ix, vx, ax⟩))) := Lib.hid (by
                  have h1 := HOT.out.le (base' := w.heap.size) HBQ.out.size
                  rw [show k + 1 + (e - k) = e + 1 by omega] at h1
                  rw [HINS.out, zsC_app, show zsC (⟨ix, vx, ax⟩ :: out.drop k) = zsC [⟨ix, vx, ax⟩] ++ zsC (out.drop k) from zsC_app [⟨ix, vx, ax⟩] _, ← List.append_assoc]
                  exact h1)
                have HBX2 := Lib.hid (below_all HBQ.out HBT.out)
                go_wp2_with fail
                go_roundg (n - (i + 1))
                case rel => exact ⟨i + 1, e + 1, by omega, rfl, by go_num, by rw [HF.out, HIL.out], by omega, by rw [HF.out]; exact HOX.out, HBX2.out⟩
                case measure => have := HQ0.out; omega
              · obtain ⟨wx, hwx⟩ : ∃ u, wo.alloc (.cells #[.int .i64 ix, .int .i64 vx, .int .u32 (ax : Int)] 42) = u := ⟨_, rfl⟩
                have hbx : Below wo.heap.size wo wx := by rw [← hwx]; exact (Below.refl _ _).alloc (Nat.le_refl _) _
                have HBx : Hid (Below wq.heap.size wq wx) := Lib.hid (below_all HBo.out hbx)
                have HXx : Hid (RdV wx wx.heap.size (some ⟨wo.heap.size, 0, none⟩) (zsC [⟨ix, vx, ax⟩])) := Lib.hid (by rw [← hwx]; exact new_rd wo 42 (zsC [⟨ix, vx, ax⟩]))
                have HOx := Lib.hid (HOo.out.up hbx)
                clear hbx
                go_simp
                try rw [hwx]
                refine hK.out _ _ ?_ (fun hHeld2 => ?_)
                · exact HSS.out _ HBx.out
                clear hK K hHeld
                have hHeld := hHeld2
                clear hHeld2
                try simp only [Act.put, List.setIfInBounds_toArray, List.set_cons_zero, List.set_cons_succ, List.getElem_toArray, List.getElem_cons_zero, List.getElem_cons_succ]
                refine wpAnyH_ready (rs := [4]) (by kernel_rfl) (by simp) ?_
                refine (AllReadyH.cons rfl (fun K hK => ?_) AllReadyH.nil)
                (refine stepP wx (by rfl) (.tmp 36) (.tmp 39) 26 42 (.agg #[.int .i64 0, .int .i64 0, .int .u32 0]) 3 24 (by rfl) Try.underlying26 ryInfo rfl (by decide) (by decide) wq.heap.size 0 k c3 _ [] (zsC (out.take k)) A3 (by rfl) HOx.out (by rfl) (HP.out.2.1) (HP.out.1 _ HBx.out) HP.out.2.2.1 (HP.out.2.2.2) (by omega) HBx.out.size ?_; intro v8 w8 ho hg; rw [Nat.zero_add, List.nil_append] at ho; have HO8 := Lib.hid ho; have HB8 := Lib.hid (below_grown HBx.out hg (fun e he => HOx.out.own e he)); have HX8 : Hid (RdV w8 w8.heap.size (some ⟨wo.heap.size, 0, none⟩) (zsC [⟨ix, vx, ax⟩])) := Lib.hid (HXx.out.keep (F := fun k => k = w6.heap.size) ((Kept.refl _ wx).grown hg (fun k e => .inl (Option.some.inj e).symm)) (fun _ b' o' x' e => by have e := Option.some.inj e; injection e with e1; have h5 : wo.heap.size = w6.heap.size + 1 := (by rw [← hwo]; simp); show ¬ (b' = _); omega)); clear ho hg)
                refine hK.out _ _ ?_ (fun hHeld2 => ?_)
                · exact HSS.out _ HB8.out
                clear hK K hHeld
                have hHeld := hHeld2
                clear hHeld2
                try simp only [Act.put, List.setIfInBounds_toArray, List.set_cons_zero, List.set_cons_succ, List.getElem_toArray, List.getElem_cons_zero, List.getElem_cons_succ]
                refine wpAnyH_ready (rs := [10]) (by kernel_rfl) (by simp) ?_
                refine (AllReadyH.cons rfl (fun K hK => ?_) AllReadyH.nil)
                (refine stepP w8 (by rfl) (.tmp 40) (.tmp 45) 26 42 (.agg #[.int .i64 0, .int .i64 0, .int .u32 0]) 3 24 (by rfl) Try.underlying26 ryInfo rfl (by decide) (by decide) wq.heap.size k 1 1 v8 (zsC (out.take k)) (zsC [⟨ix, vx, ax⟩]) (some ⟨wo.heap.size, 0, none⟩) (by rfl) HO8.out (by rfl) (by rfl) HX8.out (fun e => (by cases e)) HON.out (by omega) HB8.out.size ?_; intro v9 w9 ho hg; have HO9 := Lib.hid ho; have HB9 := Lib.hid (below_grown HB8.out hg (fun e he => HO8.out.own e he)); clear ho hg)
                refine hK.out _ _ ?_ (fun hHeld2 => ?_)
                · exact HSS.out _ HB9.out
                clear hK K hHeld
                have hHeld := hHeld2
                clear hHeld2
                try simp only [Act.put, List.setIfInBounds_toArray, List.set_cons_zero, List.set_cons_succ, List.getElem_toArray, List.getElem_cons_zero, List.getElem_cons_succ]
                refine wpAnyH_ready (rs := [14]) (by kernel_rfl) (by simp) ?_
                refine (AllReadyH.cons rfl (fun K hK => ?_) AllReadyH.nil)
                (refine stepP w9 (by rfl) (.tmp 46) (.tmp 49) 26 42 (.agg #[.int .i64 0, .int .i64 0, .int .u32 0]) 3 24 (by rfl) Try.underlying26 ryInfo rfl (by decide) (by decide) wq.heap.size (k + 1) (e - k) c4 v9 ((zsC (out.take k)) ++ (zsC [⟨ix, vx, ax⟩])) (zsC (out.drop k)) A4 (by rfl) HO9.out (by rfl) (HQ.out.2.1) (HQ.out.1 _ HB9.out) HQ.out.2.2.1 (HQ.out.2.2.2) (by omega) HB9.out.size ?_; intro vT wT ho hg; have HOT := Lib.hid ho; have HBT := Lib.hid (below_grown HB9.out hg (fun e he => HO9.out.own e he)); clear ho hg)
                refine hK.out _ _ ?_ (fun hHeld2 => ?_)
                · exact HSS.out _ HBT.out
                clear hK K hHeld
                have hHeld := hHeld2
                clear hHeld2
                try simp only [Act.put, List.setIfInBounds_toArray, List.set_cons_zero, List.set_cons_succ, List.getElem_toArray, List.getElem_cons_zero, List.getElem_cons_succ]
                refine wpAnyH_take (i := 15) (v := ?_) rfl (by kernel_rfl) (by kernel_rfl) (by kernel_rfl) (fun _ _ _ h => h) (Or.inl ⟨by rfl, ?_⟩) hHeld ?_
                rotate_left
                · intro u hSu
                  obtain ⟨s0, s1, s2⟩ := hSu
                  go_simp
                  try with_reducible rfl
                try simp only [Act.put, List.setIfInBounds_toArray, List.set_cons_zero, List.set_cons_succ, List.getElem_toArray, List.getElem_cons_zero, List.getElem_cons_succ]
                refine wpAnyH_done (by kernel_rfl) ?_ _
                have HOX : Hid (OwnK wT w.heap.size 42 3 vT (e + 1) (zsC (VZ.insZ pol p out ⟨ix, vx, ax⟩))) := Lib.hid (by
                  have h1 := HOT.out.le (base' := w.heap.size) HBQ.out.size
                  rw [show k + 1 + (e - k) = e + 1 by omega] at h1
                  rw [HINS.out, zsC_app, show zsC (⟨ix, vx, ax⟩ :: out.drop k) = zsC [⟨ix, vx, ax⟩] ++ zsC (out.drop k) from zsC_app [⟨ix, vx, ax⟩] _, ← List.append_assoc]
                  exact h1)
                have HBX2 := Lib.hid (below_all HBQ.out HBT.out)
                go_wp2_with fail
                go_roundg (n - (i + 1))
                case rel => exact ⟨i + 1, e + 1, by omega, rfl, by go_num, by rw [HF.out, HIL.out], by omega, by rw [HF.out]; exact HOX.out, HBX2.out⟩
                case measure => have := HQ0.out; omega
            · obtain ⟨wx, hwx⟩ : ∃ u, w6.alloc (.cells #[.int .i64 ix, .int .i64 vx, .int .u32 (ax : Int)] 42) = u := ⟨_, rfl⟩
              have hbx : Below w6.heap.size w6 wx := by rw [← hwx]; exact (Below.refl _ _).alloc (Nat.le_refl _) _
              have HBx : Hid (Below wq.heap.size wq wx) := Lib.hid (below_all HB6.out hbx)
              have HXx : Hid (RdV wx wx.heap.size (some ⟨w6.heap.size, 0, none⟩) (zsC [⟨ix, vx, ax⟩])) := Lib.hid (by rw [← hwx]; exact new_rd w6 42 (zsC [⟨ix, vx, ax⟩]))
              go_simp
              try rw [hwx]
              refine hK.out _ _ ?_ (fun hHeld2 => ?_)
              · exact HSS.out _ HBx.out
              clear hK K hHeld
              have hHeld := hHeld2
              clear hHeld2
              try simp only [Act.put, List.setIfInBounds_toArray, List.set_cons_zero, List.set_cons_succ, List.getElem_toArray, List.getElem_cons_zero, List.getElem_cons_succ]
              obtain ⟨wo, hwo⟩ : ∃ u, wx.alloc (.cells #[] 42) = u := ⟨_, rfl⟩
              have hbo : Below wx.heap.size wx wo := by rw [← hwo]; exact (Below.refl _ _).alloc (Nat.le_refl _) _
              have HBo : Hid (Below wq.heap.size wq wo) := Lib.hid (below_all HBx.out hbo)
              have HOo : Hid (OwnK wo wq.heap.size 42 3 (.slice (some ⟨wx.heap.size, 0, none⟩) 0 0) 0 []) := Lib.hid (by rw [← hwo]; exact OwnK.new wx _ _ 3 0 [] HBx.out.size rfl (by omega))
              have HXo := Lib.hid (HXx.out.up hbo)
              refine wpAnyH_ready (rs := [0]) (by kernel_rfl) (by simp) ?_
              refine (AllReadyH.cons rfl (fun K hK => ?_) AllReadyH.nil)
              go_simp
              try rw [hwo]
              refine hK.out _ _ ?_ (fun hHeld2 => ?_)
              · exact HSS.out _ HBo.out
              clear hK K hHeld
              have hHeld := hHeld2
              clear hHeld2
              try simp only [Act.put, List.setIfInBounds_toArray, List.set_cons_zero, List.set_cons_succ, List.getElem_toArray, List.getElem_cons_zero, List.getElem_cons_succ]
              refine wpAnyH_ready (rs := [4]) (by kernel_rfl) (by simp) ?_
              refine (AllReadyH.cons rfl (fun K hK => ?_) AllReadyH.nil)
              (refine stepP wo (by rfl) (.tmp 36) (.tmp 39) 26 42 (.agg #[.int .i64 0, .int .i64 0, .int .u32 0]) 3 24 (by rfl) Try.underlying26 ryInfo rfl (by decide) (by decide) wq.heap.size 0 k c3 _ [] (zsC (out.take k)) A3 (by rfl) HOo.out (by rfl) (HP.out.2.1) (HP.out.1 _ HBo.out) HP.out.2.2.1 (HP.out.2.2.2) (by omega) HBo.out.size ?_; intro v8 w8 ho hg; rw [Nat.zero_add, List.nil_append] at ho; have HO8 := Lib.hid ho; have HB8 := Lib.hid (below_grown HBo.out hg (fun e he => HOo.out.own e he)); have HX8 : Hid (RdV w8 w8.heap.size (some ⟨w6.heap.size, 0, none⟩) (zsC [⟨ix, vx, ax⟩])) := Lib.hid (HXo.out.keep (F := fun k => k = wx.heap.size) ((Kept.refl _ wo).grown hg (fun k e => .inl (Option.some.inj e).symm)) (fun _ b' o' x' e => by have e := Option.some.inj e; injection e with e1; have h5 : wx.heap.size = w6.heap.size + 1 := (by rw [← hwx]; simp); show ¬ (b' = _); omega)); clear ho hg)
              refine hK.out _ _ ?_ (fun hHeld2 => ?_)
              · exact HSS.out _ HB8.out
              clear hK K hHeld
              have hHeld := hHeld2
              clear hHeld2
              try simp only [Act.put, List.setIfInBounds_toArray, List.set_cons_zero, List.set_cons_succ, List.getElem_toArray, List.getElem_cons_zero, List.getElem_cons_succ]
              refine wpAnyH_ready (rs := [10]) (by kernel_rfl) (by simp) ?_
              refine (AllReadyH.cons rfl (fun K hK => ?_) AllReadyH.nil)
              (refine stepP w8 (by rfl) (.tmp 40) (.tmp 45) 26 42 (.agg #[.int .i64 0, .int .i64 0, .int .u32 0]) 3 24 (by rfl) Try.underlying26 ryInfo rfl (by decide) (by decide) wq.heap.size k 1 1 v8 (zsC (out.take k)) (zsC [⟨ix, vx, ax⟩]) (some ⟨w6.heap.size, 0, none⟩) (by rfl) HO8.out (by rfl) (by rfl) HX8.out (fun e => (by cases e)) HON.out (by omega) HB8.out.size ?_; intro v9 w9 ho hg; have HO9 := Lib.hid ho; have HB9 := Lib.hid (below_grown HB8.out hg (fun e he => HO8.out.own e he)); clear ho hg)
              refine hK.out _ _ ?_ (fun hHeld2 => ?_)
              · exact HSS.out _ HB9.out
              clear hK K hHeld
              have hHeld := hHeld2
              clear hHeld2
              try simp only [Act.put, List.setIfInBounds_toArray, List.set_cons_zero, List.set_cons_succ, List.getElem_toArray, List.getElem_cons_zero, List.getElem_cons_succ]
              refine wpAnyH_ready (rs := [14]) (by kernel_rfl) (by simp) ?_
              refine (AllReadyH.cons rfl (fun K hK => ?_) AllReadyH.nil)
              (refine stepP w9 (by rfl) (.tmp 46) (.tmp 49) 26 42 (.agg #[.int .i64 0, .int .i64 0, .int .u32 0]) 3 24 (by rfl) Try.underlying26 ryInfo rfl (by decide) (by decide) wq.heap.size (k + 1) (e - k) c4 v9 ((zsC (out.take k)) ++ (zsC [⟨ix, vx, ax⟩])) (zsC (out.drop k)) A4 (by rfl) HO9.out (by rfl) (HQ.out.2.1) (HQ.out.1 _ HB9.out) HQ.out.2.2.1 (HQ.out.2.2.2) (by omega) HB9.out.size ?_; intro vT wT ho hg; have HOT := Lib.hid ho; have HBT := Lib.hid (below_grown HB9.out hg (fun e he => HO9.out.own e he)); clear ho hg)
              refine hK.out _ _ ?_ (fun hHeld2 => ?_)
              · exact HSS.out _ HBT.out
              clear hK K hHeld
              have hHeld := hHeld2
              clear hHeld2
              try simp only [Act.put, List.setIfInBounds_toArray, List.set_cons_zero, List.set_cons_succ, List.getElem_toArray, List.getElem_cons_zero, List.getElem_cons_succ]
              refine wpAnyH_take (i := 15) (v := ?_) rfl (by kernel_rfl) (by kernel_rfl) (by kernel_rfl) (fun _ _ _ h => h) (Or.inl ⟨by rfl, ?_⟩) hHeld ?_
              rotate_left
              · intro u hSu
                obtain ⟨s0, s1, s2⟩ := hSu
                go_simp
                try with_reducible rfl
              try simp only [Act.put, List.setIfInBounds_toArray, List.set_cons_zero, List.set_cons_succ, List.getElem_toArray, List.getElem_cons_zero, List.getElem_cons_succ]
              refine wpAnyH_done (by kernel_rfl) ?_ _
              have HOX : Hid (OwnK wT w.heap.size 42 3 vT (e + 1) (zsC (VZ.insZ pol p out ⟨ix, vx, ax⟩))) := Lib.hid (by
                have h1 := HOT.out.le (base' := w.heap.size) HBQ.out.size
                rw [show k + 1 + (e - k) = e + 1 by omega] at h1
                rw [HINS.out, zsC_app, show zsC (⟨ix, vx, ax⟩ :: out.drop k) = zsC [⟨ix, vx, ax⟩] ++ zsC (out.drop k) from zsC_app [⟨ix, vx, ax⟩] _, ← List.append_assoc]
                exact h1)
              have HBX2 := Lib.hid (below_all HBQ.out HBT.out)
              go_wp2_with fail
              go_roundg (n - (i + 1))
              case rel => exact ⟨i + 1, e + 1, by omega, rfl, by go_num, by rw [HF.out, HIL.out], by omega, by rw [HF.out]; exact HOX.out, HBX2.out⟩
              case measure => have := HQ0.out; omega
        · have HKE : Hid (e ≤ k) := Lib.hid (by omega)
          have HINS := Lib.hid (ins_is (x := ⟨ix, vx, ax⟩) (pol := pol) (p := p) (show k ≤ out.length by rw [HE.out]; exact hk) HALL.out (fun hx => by have := HE.out; have := HKE.out; omega))
          have hlt1 : decide ((k : Int) < (e : Int)) = false := by simp; omega
          have HUP : Hid (∀ {a b : World}, Below wr.heap.size wr a → Below a.heap.size a b → Below wr.heap.size wr b) := Lib.hid (fun h k => below_all h k)
          go_wp2_with fail
          refine wp_region_in (fun u => Below wr.heap.size wr u) (Below.refl _ _).drew (by kernel_rfl) (by kernel_rfl) (fun ne => ?_)
          repeat (go_big_quiet_step (first
            | (go_at_call 21; (with_reducible exact In.more HUP.out (HINS.out _)))))
          refine wpQuiet_nil ?_
          intro nq
          have HBQ1 := Lib.hid (below_all HBX.out nq.ok)
          clear hlt1 HUP hke
          obtain ⟨wq, hwq⟩ : ∃ u, nq.w = u := ⟨_, rfl⟩
          rw [hwq] at HBQ1 ⊢
          clear hwq
          clear HKE
          have HBQ := Lib.hid (below_all HB.out HBQ1.out)
          have HSS := Lib.hid (fun u (hu : Below wq.heap.size wq u) => HSW.out u (below_all HBQ1.out hu))
          have HON : Hid (∀ u ∈ zsC [⟨ix, vx, ax⟩], u.oneCell' = true) := Lib.hid (zsC_one _)
          have hke' : k ≤ e := hk
          have HRQ := Lib.hid (HRO.out.up HBQ1.out)
          obtain ⟨A3, c3, hcut1, hz1, hrd1⟩ := cut_head (w := wq) (Ts := 26) (k := 3) (n := e) (c := c7) (j := k) he_ry hz_ry HRQ.out HZ7.out HEC.out hke'
          obtain ⟨A4, c4, hcut2, hz2, hrd2⟩ := cut_tail (w := wq) (Ts := 26) (k := 3) (n := e) (c := c7) (j := k) he_ry hz_ry HRQ.out HZ7.out (by rw [zsC_len, HE.out]) (by omega) HEC.out hke'
          rw [zsC_take] at hrd1
          rw [zsC_drop] at hrd2
          have HP : Hid ((∀ u, Below wq.heap.size wq u → RdV u u.heap.size A3 (zsC (out.take k))) ∧ (zsC (out.take k)).length = k * 3 ∧ (A3 = none → c3 = 0) ∧ ∀ u ∈ zsC (out.take k), u.oneCell' = true) := Lib.hid ⟨hrd1, by rw [zsC_len, List.length_take, HE.out]; omega, hz1, zsC_one _⟩
          have HQ : Hid ((∀ u, Below wq.heap.size wq u → RdV u u.heap.size A4 (zsC (out.drop k))) ∧ (zsC (out.drop k)).length = (e - k) * 3 ∧ (A4 = none → c4 = 0) ∧ ∀ u ∈ zsC (out.drop k), u.oneCell' = true) := Lib.hid ⟨hrd2, by rw [zsC_len, List.length_drop, HE.out], hz2, zsC_one _⟩
          obtain ⟨h1, h2⟩ := hcut1
          obtain ⟨h3, h4⟩ := hcut2
          clear hz1 hrd1 hz2 hrd2 HRQ
          have hin : i < n := hlt
          go_wp2_with fail
          refine wp_region_held_drew (S := fun u => u.cell? ⟨b, o + i * 3, none⟩ = some (.int .i64 ix) ∧ u.cell? ⟨b, o + i * 3 + 1, none⟩ = some (.int .i64 vx) ∧ u.cell? ⟨b, o + i * 3 + 2, none⟩ = some (.int .u32 (ax : Int))) (by kernel_rfl) (HSS.out _ (Below.refl _ _).drew) (fun hHeld => ?_)
          show wpAnyH _ _ _ _ _ 16 _ _ _
          refine wpAnyH_take (i := 1) (v := ?_) rfl (by kernel_rfl) (by kernel_rfl) (by kernel_rfl) (fun _ _ _ h => h) (Or.inl ⟨by rfl, ?_⟩) hHeld ?_
          rotate_left
          · intro u hSu
            obtain ⟨s0, s1, s2⟩ := hSu
            go_simp
            try with_reducible rfl
          try simp only [Act.put, List.setIfInBounds_toArray, List.set_cons_zero, List.set_cons_succ, List.getElem_toArray, List.getElem_cons_zero, List.getElem_cons_succ]
          refine wpAnyH_take (i := 2) (v := ?_) rfl (by kernel_rfl) (by kernel_rfl) (by kernel_rfl) (fun _ _ _ h => h) (Or.inl ⟨by rfl, ?_⟩) hHeld ?_
          rotate_left
          · intro u hSu
            obtain ⟨s0, s1, s2⟩ := hSu
            go_simp
            try with_reducible rfl
          try simp only [Act.put, List.setIfInBounds_toArray, List.set_cons_zero, List.set_cons_succ, List.getElem_toArray, List.getElem_cons_zero, List.getElem_cons_succ]
          refine wpAnyH_take (i := 3) (v := ?_) rfl (by kernel_rfl) (by kernel_rfl) (by kernel_rfl) (fun _ _ _ h => h) (Or.inl ⟨by rfl, ?_⟩) hHeld ?_
          rotate_left
          · intro u hSu
            obtain ⟨s0, s1, s2⟩ := hSu
            go_simp
            try with_reducible rfl
          try simp only [Act.put, List.setIfInBounds_toArray, List.set_cons_zero, List.set_cons_succ, List.getElem_toArray, List.getElem_cons_zero, List.getElem_cons_succ]
          refine wpAnyH_take (i := 5) (v := ?_) rfl (by kernel_rfl) (by kernel_rfl) (by kernel_rfl) (fun _ _ _ h => h) (Or.inl ⟨by rfl, ?_⟩) hHeld ?_
          rotate_left
          · intro u hSu
            obtain ⟨s0, s1, s2⟩ := hSu
            go_simp
            try with_reducible rfl
          try simp only [Act.put, List.setIfInBounds_toArray, List.set_cons_zero, List.set_cons_succ, List.getElem_toArray, List.getElem_cons_zero, List.getElem_cons_succ]
          refine wpAnyH_take (i := 6) (v := ?_) rfl (by kernel_rfl) (by kernel_rfl) (by kernel_rfl) (fun _ _ _ h => h) (Or.inl ⟨by rfl, ?_⟩) hHeld ?_
          rotate_left
          · intro u hSu
            obtain ⟨s0, s1, s2⟩ := hSu
            go_simp
            try with_reducible rfl
          try simp only [Act.put, List.setIfInBounds_toArray, List.set_cons_zero, List.set_cons_succ, List.getElem_toArray, List.getElem_cons_zero, List.getElem_cons_succ]
          refine wpAnyH_take (i := 7) (v := ?_) rfl (by kernel_rfl) (by kernel_rfl) (by kernel_rfl) (fun _ _ _ h => h) (Or.inl ⟨by rfl, ?_⟩) hHeld ?_
          rotate_left
          · intro u hSu
            obtain ⟨s0, s1, s2⟩ := hSu
            go_simp
            try with_reducible rfl
          try simp only [Act.put, List.setIfInBounds_toArray, List.set_cons_zero, List.set_cons_succ, List.getElem_toArray, List.getElem_cons_zero, List.getElem_cons_succ]
          refine wpAnyH_take (i := 8) (v := ?_) rfl (by kernel_rfl) (by kernel_rfl) (by kernel_rfl) (fun _ _ _ h => h) (Or.inl ⟨by rfl, ?_⟩) hHeld ?_
          rotate_left
          · intro u hSu
            obtain ⟨s0, s1, s2⟩ := hSu
            go_simp
            try with_reducible rfl
          try simp only [Act.put, List.setIfInBounds_toArray, List.set_cons_zero, List.set_cons_succ, List.getElem_toArray, List.getElem_cons_zero, List.getElem_cons_succ]
          refine wpAnyH_take (i := 11) (v := ?_) rfl (by kernel_rfl) (by kernel_rfl) (by kernel_rfl) (fun _ _ _ h => h) (Or.inl ⟨by rfl, ?_⟩) hHeld ?_
          rotate_left
          · intro u hSu
            obtain ⟨s0, s1, s2⟩ := hSu
            go_simp
            try with_reducible rfl
          try simp only [Act.put, List.setIfInBounds_toArray, List.set_cons_zero, List.set_cons_succ, List.getElem_toArray, List.getElem_cons_zero, List.getElem_cons_succ]
          refine wpAnyH_take (i := 12) (v := ?_) rfl (by kernel_rfl) (by kernel_rfl) (by kernel_rfl) (fun _ _ _ h => h) (Or.inl ⟨by rfl, ?_⟩) hHeld ?_
          rotate_left
          · intro u hSu
            obtain ⟨s0, s1, s2⟩ := hSu
            go_simp
            try with_reducible rfl
          try simp only [Act.put, List.setIfInBounds_toArray, List.set_cons_zero, List.set_cons_succ, List.getElem_toArray, List.getElem_cons_zero, List.getElem_cons_succ]
          refine wpAnyH_take (i := 13) (v := ?_) rfl (by kernel_rfl) (by kernel_rfl) (by kernel_rfl) (fun _ _ _ h => h) (Or.inl ⟨by rfl, ?_⟩) hHeld ?_
          rotate_left
          · intro u hSu
            obtain ⟨s0, s1, s2⟩ := hSu
            go_simp
            try with_reducible rfl
          try simp only [Act.put, List.setIfInBounds_toArray, List.set_cons_zero, List.set_cons_succ, List.getElem_toArray, List.getElem_cons_zero, List.getElem_cons_succ]
          obtain ⟨w6, hw6⟩ : ∃ w6, wq.drew = w6 := ⟨_, rfl⟩
          have HB6 : Hid (Below wq.heap.size wq w6) := Lib.hid (by rw [← hw6]; exact (Below.refl _ _).drew)
          rw [hw6] at hHeld ⊢
          clear hw6
          refine wpAnyH_ready (rs := [0, 9]) (by kernel_rfl) (by simp) ?_
          refine (AllReadyH.cons rfl (fun K hK => ?_) (AllReadyH.cons rfl (fun K hK => ?_) AllReadyH.nil))
          · obtain ⟨wo, hwo⟩ : ∃ u, w6.alloc (.cells #[] 42) = u := ⟨_, rfl⟩
            have hbo : Below w6.heap.size w6 wo := by rw [← hwo]; exact (Below.refl _ _).alloc (Nat.le_refl _) _
            have HBo : Hid (Below wq.heap.size wq wo) := Lib.hid (below_all HB6.out hbo)
            have HOo : Hid (OwnK wo wq.heap.size 42 3 (.slice (some ⟨w6.heap.size, 0, none⟩) 0 0) 0 []) := Lib.hid (by rw [← hwo]; exact OwnK.new w6 _ _ 3 0 [] HB6.out.size rfl (by omega))
            go_simp
            try rw [hwo]
            refine hK.out _ _ ?_ (fun hHeld2 => ?_)
            · exact HSS.out _ HBo.out
            clear hK K hHeld
            have hHeld := hHeld2
            clear hHeld2
            try simp only [Act.put, List.setIfInBounds_toArray, List.set_cons_zero, List.set_cons_succ, List.getElem_toArray, List.getElem_cons_zero, List.getElem_cons_succ]
            refine wpAnyH_ready (rs := [4, 9]) (by kernel_rfl) (by simp) ?_
            refine (AllReadyH.cons rfl (fun K hK => ?_) (AllReadyH.cons rfl (fun K hK => ?_) AllReadyH.nil))
            · (refine stepP wo (by rfl) (.tmp 36) (.tmp 39) 26 42 (.agg #[.int .i64 0, .int .i64 0, .int .u32 0]) 3 24 (by rfl) Try.underlying26 ryInfo rfl (by decide) (by decide) wq.heap.size 0 k c3 _ [] (zsC (out.take k)) A3 (by rfl) HOo.out (by rfl) (HP.out.2.1) (HP.out.1 _ HBo.out) HP.out.2.2.1 (HP.out.2.2.2) (by omega) HBo.out.size ?_; intro v8 w8 ho hg; rw [Nat.zero_add, List.nil_append] at ho; have HO8 := Lib.hid ho; have HB8 := Lib.hid (below_grown HBo.out hg (fun e he => HOo.out.own e he)); clear ho hg)
              refine hK.out _ _ ?_ (fun hHeld2 => ?_)
              · exact HSS.out _ HB8.out
              clear hK K hHeld
              have hHeld := hHeld2
              clear hHeld2
              try simp only [Act.put, List.setIfInBounds_toArray, List.set_cons_zero, List.set_cons_succ, List.getElem_toArray, List.getElem_cons_zero, List.getElem_cons_succ]
              obtain ⟨wx, hwx⟩ : ∃ u, w8.alloc (.cells #[.int .i64 ix, .int .i64 vx, .int .u32 (ax : Int)] 42) = u := ⟨_, rfl⟩
              have hbx : Below w8.heap.size w8 wx := by rw [← hwx]; exact (Below.refl _ _).alloc (Nat.le_refl _) _
              have HBx : Hid (Below wq.heap.size wq wx) := Lib.hid (below_all HB8.out hbx)
              have HXx : Hid (RdV wx wx.heap.size (some ⟨w8.heap.size, 0, none⟩) (zsC [⟨ix, vx, ax⟩])) := Lib.hid (by rw [← hwx]; exact new_rd w8 42 (zsC [⟨ix, vx, ax⟩]))
              have HO8x := Lib.hid (HO8.out.up hbx)
              clear hbx
              refine wpAnyH_ready (rs := [9]) (by kernel_rfl) (by simp) ?_
              refine (AllReadyH.cons rfl (fun K hK => ?_) AllReadyH.nil)
              go_simp
              try rw [hwx]
              refine hK.out _ _ ?_ (fun hHeld2 => ?_)
              · exact HSS.out _ HBx.out
              clear hK K hHeld
              have hHeld := hHeld2
              clear hHeld2
              try simp only [Act.put, List.setIfInBounds_toArray, List.set_cons_zero, List.set_cons_succ, List.getElem_toArray, List.getElem_cons_zero, List.getElem_cons_succ]
              refine wpAnyH_ready (rs := [10]) (by kernel_rfl) (by simp) ?_
              refine (AllReadyH.cons rfl (fun K hK => ?_) AllReadyH.nil)
              (refine stepP wx (by rfl) (.tmp 40) (.tmp 45) 26 42 (.agg #[.int .i64 0, .int .i64 0, .int .u32 0]) 3 24 (by rfl) Try.underlying26 ryInfo rfl (by decide) (by decide) wq.heap.size k 1 1 v8 (zsC (out.take k)) (zsC [⟨ix, vx, ax⟩]) (some ⟨w8.heap.size, 0, none⟩) (by rfl) HO8x.out (by rfl) (by rfl) HXx.out (fun e => (by cases e)) HON.out (by omega) HBx.out.size ?_; intro v9 w9 ho hg; have HO9 := Lib.hid ho; have HB9 := Lib.hid (below_grown HBx.out hg (fun e he => HO8x.out.own e he)); clear ho hg)
              refine hK.out _ _ ?_ (fun hHeld2 => ?_)
              · exact HSS.out _ HB9.out
              clear hK K hHeld
              have hHeld := hHeld2
              clear hHeld2
              try simp only [Act.put, List.setIfInBounds_toArray, List.set_cons_zero, List.set_cons_succ, List.getElem_toArray, List.getElem_cons_zero, List.getElem_cons_succ]
              refine wpAnyH_ready (rs := [14]) (by kernel_rfl) (by simp) ?_
              refine (AllReadyH.cons rfl (fun K hK => ?_) AllReadyH.nil)
              (refine stepP w9 (by rfl) (.tmp 46) (.tmp 49) 26 42 (.agg #[.int .i64 0, .int .i64 0, .int .u32 0]) 3 24 (by rfl) Try.underlying26 ryInfo rfl (by decide) (by decide) wq.heap.size (k + 1) (e - k) c4 v9 ((zsC (out.take k)) ++ (zsC [⟨ix, vx, ax⟩])) (zsC (out.drop k)) A4 (by rfl) HO9.out (by rfl) (HQ.out.2.1) (HQ.out.1 _ HB9.out) HQ.out.2.2.1 (HQ.out.2.2.2) (by omega) HB9.out.size ?_; intro vT wT ho hg; have HOT := Lib.hid ho; have HBT := Lib.hid (below_grown HB9.out hg (fun e he => HO9.out.own e he)); clear ho hg)
              refine hK.out _ _ ?_ (fun hHeld2 => ?_)
              · exact HSS.out _ HBT.out
              clear hK K hHeld
              have hHeld := hHeld2
              clear hHeld2
              try simp only [Act.put, List.setIfInBounds_toArray, List.set_cons_zero, List.set_cons_succ, List.getElem_toArray, List.getElem_cons_zero, List.getElem_cons_succ]
              refine wpAnyH_take (i := 15) (v := ?_) rfl (by kernel_rfl) (by kernel_rfl) (by kernel_rfl) (fun _ _ _ h => h) (Or.inl ⟨by rfl, ?_⟩) hHeld ?_
              rotate_left
              · intro u hSu
                obtain ⟨s0, s1, s2⟩ := hSu
                go_simp
                try with_reducible rfl
              try simp only [Act.put, List.setIfInBounds_toArray, List.set_cons_zero, List.set_cons_succ, List.getElem_toArray, List.getElem_cons_zero, List.getElem_cons_succ]
              refine wpAnyH_done (by kernel_rfl) ?_ _
              have HOX : Hid (OwnK wT w.heap.size 42 3 vT (e + 1) (zsC (VZ.insZ pol p out ⟨ix, vx, ax⟩))) := Lib.hid (by
                have h1 := HOT.out.le (base' := w.heap.size) HBQ.out.size
                rw [show k + 1 + (e - k) = e + 1 by omega] at h1
                rw [HINS.out, zsC_app, show zsC (⟨ix, vx, ax⟩ :: out.drop k) = zsC [⟨ix, vx, ax⟩] ++ zsC (out.drop k) from zsC_app [⟨ix, vx, ax⟩] _, ← List.append_assoc]
                exact h1)
              have HBX2 := Lib.hid (below_all HBQ.out HBT.out)
              go_wp2_with fail
              go_roundg (n - (i + 1))
              case rel => exact ⟨i + 1, e + 1, by omega, rfl, by go_num, by rw [HF.out, HIL.out], by omega, by rw [HF.out]; exact HOX.out, HBX2.out⟩
              case measure => have := HQ0.out; omega
            · obtain ⟨wx, hwx⟩ : ∃ u, wo.alloc (.cells #[.int .i64 ix, .int .i64 vx, .int .u32 (ax : Int)] 42) = u := ⟨_, rfl⟩
              have hbx : Below wo.heap.size wo wx := by rw [← hwx]; exact (Below.refl _ _).alloc (Nat.le_refl _) _
              have HBx : Hid (Below wq.heap.size wq wx) := Lib.hid (below_all HBo.out hbx)
              have HXx : Hid (RdV wx wx.heap.size (some ⟨wo.heap.size, 0, none⟩) (zsC [⟨ix, vx, ax⟩])) := Lib.hid (by rw [← hwx]; exact new_rd wo 42 (zsC [⟨ix, vx, ax⟩]))
              have HOx := Lib.hid (HOo.out.up hbx)
              clear hbx
              go_simp
              try rw [hwx]
              refine hK.out _ _ ?_ (fun hHeld2 => ?_)
              · exact HSS.out _ HBx.out
              clear hK K hHeld
              have hHeld := hHeld2
              clear hHeld2
              try simp only [Act.put, List.setIfInBounds_toArray, List.set_cons_zero, List.set_cons_succ, List.getElem_toArray, List.getElem_cons_zero, List.getElem_cons_succ]
              refine wpAnyH_ready (rs := [4]) (by kernel_rfl) (by simp) ?_
              refine (AllReadyH.cons rfl (fun K hK => ?_) AllReadyH.nil)
              (refine stepP wx (by rfl) (.tmp 36) (.tmp 39) 26 42 (.agg #[.int .i64 0, .int .i64 0, .int .u32 0]) 3 24 (by rfl) Try.underlying26 ryInfo rfl (by decide) (by decide) wq.heap.size 0 k c3 _ [] (zsC (out.take k)) A3 (by rfl) HOx.out (by rfl) (HP.out.2.1) (HP.out.1 _ HBx.out) HP.out.2.2.1 (HP.out.2.2.2) (by omega) HBx.out.size ?_; intro v8 w8 ho hg; rw [Nat.zero_add, List.nil_append] at ho; have HO8 := Lib.hid ho; have HB8 := Lib.hid (below_grown HBx.out hg (fun e he => HOx.out.own e he)); have HX8 : Hid (RdV w8 w8.heap.size (some ⟨wo.heap.size, 0, none⟩) (zsC [⟨ix, vx, ax⟩])) := Lib.hid (HXx.out.keep (F := fun k => k = w6.heap.size) ((Kept.refl _ wx).grown hg (fun k e => .inl (Option.some.inj e).symm)) (fun _ b' o' x' e => by have e := Option.some.inj e; injection e with e1; have h5 : wo.heap.size = w6.heap.size + 1 := (by rw [← hwo]; simp); show ¬ (b' = _); omega)); clear ho hg)
              refine hK.out _ _ ?_ (fun hHeld2 => ?_)
              · exact HSS.out _ HB8.out
              clear hK K hHeld
              have hHeld := hHeld2
              clear hHeld2
              try simp only [Act.put, List.setIfInBounds_toArray, List.set_cons_zero, List.set_cons_succ, List.getElem_toArray, List.getElem_cons_zero, List.getElem_cons_succ]
              refine wpAnyH_ready (rs := [10]) (by kernel_rfl) (by simp) ?_
              refine (AllReadyH.cons rfl (fun K hK => ?_) AllReadyH.nil)
              (refine stepP w8 (by rfl) (.tmp 40) (.tmp 45) 26 42 (.agg #[.int .i64 0, .int .i64 0, .int .u32 0]) 3 24 (by rfl) Try.underlying26 ryInfo rfl (by decide) (by decide) wq.heap.size k 1 1 v8 (zsC (out.take k)) (zsC [⟨ix, vx, ax⟩]) (some ⟨wo.heap.size, 0, none⟩) (by rfl) HO8.out (by rfl) (by rfl) HX8.out (fun e => (by cases e)) HON.out (by omega) HB8.out.size ?_; intro v9 w9 ho hg; have HO9 := Lib.hid ho; have HB9 := Lib.hid (below_grown HB8.out hg (fun e he => HO8.out.own e he)); clear ho hg)
              refine hK.out _ _ ?_ (fun hHeld2 => ?_)
              · exact HSS.out _ HB9.out
              clear hK K hHeld
              have hHeld := hHeld2
              clear hHeld2
              try simp only [Act.put, List.setIfInBounds_toArray, List.set_cons_zero, List.set_cons_succ, List.getElem_toArray, List.getElem_cons_zero, List.getElem_cons_succ]
              refine wpAnyH_ready (rs := [14]) (by kernel_rfl) (by simp) ?_
              refine (AllReadyH.cons rfl (fun K hK => ?_) AllReadyH.nil)
              (refine stepP w9 (by rfl) (.tmp 46) (.tmp 49) 26 42 (.agg #[.int .i64 0, .int .i64 0, .int .u32 0]) 3 24 (by rfl) Try.underlying26 ryInfo rfl (by decide) (by decide) wq.heap.size (k + 1) (e - k) c4 v9 ((zsC (out.take k)) ++ (zsC [⟨ix, vx, ax⟩])) (zsC (out.drop k)) A4 (by rfl) HO9.out (by rfl) (HQ.out.2.1) (HQ.out.1 _ HB9.out) HQ.out.2.2.1 (HQ.out.2.2.2) (by omega) HB9.out.size ?_; intro vT wT ho hg; have HOT := Lib.hid ho; have HBT := Lib.hid (below_grown HB9.out hg (fun e he => HO9.out.own e he)); clear ho hg)
              refine hK.out _ _ ?_ (fun hHeld2 => ?_)
              · exact HSS.out _ HBT.out
              clear hK K hHeld
              have hHeld := hHeld2
              clear hHeld2
              try simp only [Act.put, List.setIfInBounds_toArray, List.set_cons_zero, List.set_cons_succ, List.getElem_toArray, List.getElem_cons_zero, List.getElem_cons_succ]
              refine wpAnyH_take (i := 15) (v := ?_) rfl (by kernel_rfl) (by kernel_rfl) (by kernel_rfl) (fun _ _ _ h => h) (Or.inl ⟨by rfl, ?_⟩) hHeld ?_
              rotate_left
              · intro u hSu
                obtain ⟨s0, s1, s2⟩ := hSu
                go_simp
                try with_reducible rfl
              try simp only [Act.put, List.setIfInBounds_toArray, List.set_cons_zero, List.set_cons_succ, List.getElem_toArray, List.getElem_cons_zero, List.getElem_cons_succ]
              refine wpAnyH_done (by kernel_rfl) ?_ _
              have HOX : Hid (OwnK wT w.heap.size 42 3 vT (e + 1) (zsC (VZ.insZ pol p out ⟨ix, vx, ax⟩))) := Lib.hid (by
                have h1 := HOT.out.le (base' := w.heap.size) HBQ.out.size
                rw [show k + 1 + (e - k) = e + 1 by omega] at h1
                rw [HINS.out, zsC_app, show zsC (⟨ix, vx, ax⟩ :: out.drop k) = zsC [⟨ix, vx, ax⟩] ++ zsC (out.drop k) from zsC_app [⟨ix, vx, ax⟩] _, ← List.append_assoc]
                exact h1)
              have HBX2 := Lib.hid (below_all HBQ.out HBT.out)
              go_wp2_with fail
              go_roundg (n - (i + 1))
              case rel => exact ⟨i + 1, e + 1, by omega, rfl, by go_num, by rw [HF.out, HIL.out], by omega, by rw [HF.out]; exact HOX.out, HBX2.out⟩
              case measure => have := HQ0.out; omega
          · obtain ⟨wx, hwx⟩ : ∃ u, w6.alloc (.cells #[.int .i64 ix, .int .i64 vx, .int .u32 (ax : Int)] 42) = u := ⟨_, rfl⟩
            have hbx : Below w6.heap.size w6 wx := by rw [← hwx]; exact (Below.refl _ _).alloc (Nat.le_refl _) _
            have HBx : Hid (Below wq.heap.size wq wx) := Lib.hid (below_all HB6.out hbx)
            have HXx : Hid (RdV wx wx.heap.size (some ⟨w6.heap.size, 0, none⟩) (zsC [⟨ix, vx, ax⟩])) := Lib.hid (by rw [← hwx]; exact new_rd w6 42 (zsC [⟨ix, vx, ax⟩]))
            go_simp
            try rw [hwx]
            refine hK.out _ _ ?_ (fun hHeld2 => ?_)
            · exact HSS.out _ HBx.out
            clear hK K hHeld
            have hHeld := hHeld2
            clear hHeld2
            try simp only [Act.put, List.setIfInBounds_toArray, List.set_cons_zero, List.set_cons_succ, List.getElem_toArray, List.getElem_cons_zero, List.getElem_cons_succ]
            obtain ⟨wo, hwo⟩ : ∃ u, wx.alloc (.cells #[] 42) = u := ⟨_, rfl⟩
            have hbo : Below wx.heap.size wx wo := by rw [← hwo]; exact (Below.refl _ _).alloc (Nat.le_refl _) _
            have HBo : Hid (Below wq.heap.size wq wo) := Lib.hid (below_all HBx.out hbo)
            have HOo : Hid (OwnK wo wq.heap.size 42 3 (.slice (some ⟨wx.heap.size, 0, none⟩) 0 0) 0 []) := Lib.hid (by rw [← hwo]; exact OwnK.new wx _ _ 3 0 [] HBx.out.size rfl (by omega))
            have HXo := Lib.hid (HXx.out.up hbo)
            refine wpAnyH_ready (rs := [0]) (by kernel_rfl) (by simp) ?_
            refine (AllReadyH.cons rfl (fun K hK => ?_) AllReadyH.nil)
            go_simp
            try rw [hwo]
            refine hK.out _ _ ?_ (fun hHeld2 => ?_)
            · exact HSS.out _ HBo.out
            clear hK K hHeld
            have hHeld := hHeld2
            clear hHeld2
            try simp only [Act.put, List.setIfInBounds_toArray, List.set_cons_zero, List.set_cons_succ, List.getElem_toArray, List.getElem_cons_zero, List.getElem_cons_succ]
            refine wpAnyH_ready (rs := [4]) (by kernel_rfl) (by simp) ?_
            refine (AllReadyH.cons rfl (fun K hK => ?_) AllReadyH.nil)
            (refine stepP wo (by rfl) (.tmp 36) (.tmp 39) 26 42 (.agg #[.int .i64 0, .int .i64 0, .int .u32 0]) 3 24 (by rfl) Try.underlying26 ryInfo rfl (by decide) (by decide) wq.heap.size 0 k c3 _ [] (zsC (out.take k)) A3 (by rfl) HOo.out (by rfl) (HP.out.2.1) (HP.out.1 _ HBo.out) HP.out.2.2.1 (HP.out.2.2.2) (by omega) HBo.out.size ?_; intro v8 w8 ho hg; rw [Nat.zero_add, List.nil_append] at ho; have HO8 := Lib.hid ho; have HB8 := Lib.hid (below_grown HBo.out hg (fun e he => HOo.out.own e he)); have HX8 : Hid (RdV w8 w8.heap.size (some ⟨w6.heap.size, 0, none⟩) (zsC [⟨ix, vx, ax⟩])) := Lib.hid (HXo.out.keep (F := fun k => k = wx.heap.size) ((Kept.refl _ wo).grown hg (fun k e => .inl (Option.some.inj e).symm)) (fun _ b' o' x' e => by have e := Option.some.inj e; injection e with e1; have h5 : wx.heap.size = w6.heap.size + 1 := (by rw [← hwx]; simp); show ¬ (b' = _); omega)); clear ho hg)
            refine hK.out _ _ ?_ (fun hHeld2 => ?_)
            · exact HSS.out _ HB8.out
            clear hK K hHeld
            have hHeld := hHeld2
            clear hHeld2
            try simp only [Act.put, List.setIfInBounds_toArray, List.set_cons_zero, List.set_cons_succ, List.getElem_toArray, List.getElem_cons_zero, List.getElem_cons_succ]
            refine wpAnyH_ready (rs := [10]) (by kernel_rfl) (by simp) ?_
            refine (AllReadyH.cons rfl (fun K hK => ?_) AllReadyH.nil)
            (refine stepP w8 (by rfl) (.tmp 40) (.tmp 45) 26 42 (.agg #[.int .i64 0, .int .i64 0, .int .u32 0]) 3 24 (by rfl) Try.underlying26 ryInfo rfl (by decide) (by decide) wq.heap.size k 1 1 v8 (zsC (out.take k)) (zsC [⟨ix, vx, ax⟩]) (some ⟨w6.heap.size, 0, none⟩) (by rfl) HO8.out (by rfl) (by rfl) HX8.out (fun e => (by cases e)) HON.out (by omega) HB8.out.size ?_; intro v9 w9 ho hg; have HO9 := Lib.hid ho; have HB9 := Lib.hid (below_grown HB8.out hg (fun e he => HO8.out.own e he)); clear ho hg)
            refine hK.out _ _ ?_ (fun hHeld2 => ?_)
            · exact HSS.out _ HB9.out
            clear hK K hHeld
            have hHeld := hHeld2
            clear hHeld2
            try simp only [Act.put, List.setIfInBounds_toArray, List.set_cons_zero, List.set_cons_succ, List.getElem_toArray, List.getElem_cons_zero, List.getElem_cons_succ]
            refine wpAnyH_ready (rs := [14]) (by kernel_rfl) (by simp) ?_
            refine (AllReadyH.cons rfl (fun K hK => ?_) AllReadyH.nil)
            (refine stepP w9 (by rfl) (.tmp 46) (.tmp 49) 26 42 (.agg #[.int .i64 0, .int .i64 0, .int .u32 0]) 3 24 (by rfl) Try.underlying26 ryInfo rfl (by decide) (by decide) wq.heap.size (k + 1) (e - k) c4 v9 ((zsC (out.take k)) ++ (zsC [⟨ix, vx, ax⟩])) (zsC (out.drop k)) A4 (by rfl) HO9.out (by rfl) (HQ.out.2.1) (HQ.out.1 _ HB9.out) HQ.out.2.2.1 (HQ.out.2.2.2) (by omega) HB9.out.size ?_; intro vT wT ho hg; have HOT := Lib.hid ho; have HBT := Lib.hid (below_grown HB9.out hg (fun e he => HO9.out.own e he)); clear ho hg)
            refine hK.out _ _ ?_ (fun hHeld2 => ?_)
            · exact HSS.out _ HBT.out
            clear hK K hHeld
            have hHeld := hHeld2
            clear hHeld2
            try simp only [Act.put, List.setIfInBounds_toArray, List.set_cons_zero, List.set_cons_succ, List.getElem_toArray, List.getElem_cons_zero, List.getElem_cons_succ]
            refine wpAnyH_take (i := 15) (v := ?_) rfl (by kernel_rfl) (by kernel_rfl) (by kernel_rfl) (fun _ _ _ h => h) (Or.inl ⟨by rfl, ?_⟩) hHeld ?_
            rotate_left
            · intro u hSu
              obtain ⟨s0, s1, s2⟩ := hSu
              go_simp
              try with_reducible rfl
            try simp only [Act.put, List.setIfInBounds_toArray, List.set_cons_zero, List.set_cons_succ, List.getElem_toArray, List.getElem_cons_zero, List.getElem_cons_succ]
            refine wpAnyH_done (by kernel_rfl) ?_ _
            have HOX : Hid (OwnK wT w.heap.size 42 3 vT (e + 1) (zsC (VZ.insZ pol p out ⟨ix, vx, ax⟩))) := Lib.hid (by
              have h1 := HOT.out.le (base' := w.heap.size) HBQ.out.size
              rw [show k + 1 + (e - k) = e + 1 by omega] at h1
              rw [HINS.out, zsC_app, show zsC (⟨ix, vx, ax⟩ :: out.drop k) = zsC [⟨ix, vx, ax⟩] ++ zsC (out.drop k) from zsC_app [⟨ix, vx, ax⟩] _, ← List.append_assoc]
              exact h1)
            have HBX2 := Lib.hid (below_all HBQ.out HBT.out)
            go_wp2_with fail
            go_roundg (n - (i + 1))
            case rel => exact ⟨i + 1, e + 1, by omega, rfl, by go_num, by rw [HF.out, HIL.out], by omega, by rw [HF.out]; exact HOX.out, HBX2.out⟩
            case measure => have := HQ0.out; omega
    · obtain rfl : i = n := by omega
      have hto : l.take i = l := List.take_of_length_le (by rw [HN.out]; exact Nat.le_refl _)
      rw [hto] at HO HE
      have HX : Hid (ZsIs 42 (VZ.sortZ pol p l) w (.returned u7) wr) := Lib.hid ⟨u7, rfl, by rw [show (VZ.sortZ pol p l).length = e from HE.out]; exact HO.out, HB.out⟩
      clear HO hto HE
      go_wp2_with fail
      go_ret
      exact HX.out
end Go.Proofs.Ytndapbfaaglcgaa
