/-
  Numbers compared; platelayerlaw09.IndexOrder answers true.
-/
import Derived.Test.YtekaeeckhfghpaaIxF
import Derived.Test.YtekaeeckhfghpaaIxK
import Derived.Test.YtekaeeckhfghpaaIxMath3
import Derived.Test.YtekaeeckhfghpaaHand
namespace Go.Proofs.Ytekaeeckhfghpaa
open Go.RowKit

/-- Truths as cells. -/
def tB (l : List Bool) : List Value := l.map Value.bool
theorem tB_len (l : List Bool) : (tB l).length = l.length := by simp [tB]
theorem rd_u {w : World} {b o : Nat} {l : List Nat} (h : ∀ i (h : i < (uC l).length), w.cell? ⟨b, o + i, none⟩ = some (uC l)[i]) (k : Nat) (hk : k < l.length) : w.cell? ⟨b, o + k, none⟩ = some (.int .u32 ((l.getD k 0 : Nat) : Int)) := by
  rw [h k (by rw [uC_len]; exact hk)]
  simp [uC, hk]
theorem rd_t {w : World} {b o : Nat} {l : List Bool} (h : ∀ i (h : i < (tB l).length), w.cell? ⟨b, o + i, none⟩ = some (tB l)[i]) (k : Nat) (hk : k < l.length) : w.cell? ⟨b, o + k, none⟩ = some (.bool (l.getD k false)) := by
  rw [h k (by rw [tB_len]; exact hk)]
  simp [tB, hk]
set_option maxHeartbeats 1000000 in
/-- Numbers that are the same are told so. -/
theorem xnum_at {w : World} {A A2 : Option Addr} {n c c2 : Nat} (l : List Nat) (hl : l.length = n) (hr : RdV w w.heap.size A (uC l)) (hr2 : RdV w w.heap.size A2 (uC l)) (hn : n ≤ 100000) : Calls Try.prog 11 #[.slice A n c, .slice A2 n c2] w (BoolB true w) := by
  have HR := Lib.hid hr
  have HR2 := Lib.hid hr2
  have HL := Lib.hid hl
  clear hr hr2 hl
  have q0 : ((n : Int) != (n : Int)) = false := by simp
  go_enter Try.func11, Try.ntmps11
  go_wp2_with fail
  go_loopg [5] n (fun q x wr => ∃ k : Nat, k ≤ n ∧ q = n - k ∧ x = .int .i64 (k : Int) ∧ Below w.heap.size w wr)
  case atStart => exact ⟨0, by omega, rfl, rfl, Below.refl _ _⟩
  case round =>
    obtain ⟨k, hk, hq, rfl, hb⟩ := hrel
    have HQ := Lib.hid hq
    have HB := Lib.hid hb
    clear hq hb
    by_cases hlt : k < n
    · obtain ⟨b, o, rfl, _, hcell⟩ := (HR.out.below HB.out) (by rw [uC_len, HL.out]; omega)
      obtain ⟨b2, o2, rfl, _, hcell2⟩ := (HR2.out.below HB.out) (by rw [uC_len, HL.out]; omega)
      have c0 := rd_u hcell k (by rw [HL.out]; exact hlt)
      have c1 := rd_u hcell2 k (by rw [HL.out]; exact hlt)
      clear hcell hcell2
      generalize l.getD k 0 = x at *
      have q : ((x : Int) != (x : Int)) = false := by simp
      go_wp2_with fail
      go_region
      go_wp2_with fail
      go_roundg (n - (k + 1))
      case rel => exact ⟨k + 1, by omega, rfl, by go_num, HB.out.drew⟩
      case measure => have := HQ.out; omega
    · go_wp2_with fail
      go_ret
      exact ⟨rfl, HB.out⟩
theorem xputK_at {w : World} {kb : Nat} {S : IxS} (k : Nat) (h : IxM w kb S) : Calls Try.prog 8 #[.pointer (some ⟨kb, 0, none⟩), .int .u32 (k : Int), .int .i64 ((k : Int) % 1000)] w (IxTo kb (S.putB k) (S.putS k ((k % 1000 : Nat) : Int)) w) := by
  have e : (k : Int) % 1000 = ((k % 1000 : Nat) : Int) := by omega
  rw [e]
  exact xput_at k _ h
theorem RowF.rdU {F : Nat → Prop} {w : World} {A : Option Addr} {n c : Nat} {xs : List Nat} (h : RowF F w (.slice A n c) (uC xs)) : RdV w w.heap.size A (uC xs) := by
  obtain ⟨A', c', e, hc, hr, _⟩ := h
  injection e with e1 e2 e3
  subst e1
  exact hr
/-- Two indexes of this call's own. -/
structure OX (w0 w : World) (ka kb : Nat) (S T : IxS) : Prop where
  a : IxM w ka S
  b : IxM w kb T
  lt : w0.heap.size ≤ ka ∧ ka < kb
  old : Below w0.heap.size w0 w
namespace OX
variable {w0 w w' : World} {ka kb : Nat} {S T S' : IxS}
theorem up (h : OX w0 w ka kb S T) (hb : Below w.heap.size w w') : OX w0 w' ka kb S T := ⟨h.a.up hb, h.b.up hb, h.lt, below_all h.old hb⟩
theorem drew (h : OX w0 w ka kb S T) : OX w0 w.drew ka kb S T := h.up (Below.refl _ _).drew
theorem toA (h : OX w0 w ka kb S T) (hm : IxM w' ka S') (hk : Kept (fun k => k = ka) w w') : OX w0 w' ka kb S' T :=
  ⟨hm, h.b.keep hk (by have := h.lt; omega), h.lt, h.old.trans (hk.below h.old.size (fun k e => by have := h.lt; omega))⟩
theorem toB (h : OX w0 w ka kb S T) (hm : IxM w' kb S') (hk : Kept (fun k => k = kb) w w') : OX w0 w' ka kb S S' :=
  ⟨h.a.keep hk (by have := h.lt; omega), hm, h.lt, h.old.trans (hk.below h.old.size (fun k e => by have := h.lt; omega))⟩
end OX
set_option maxHeartbeats 1000000 in
set_option maxRecDepth 100000 in
theorem iorder_true {w : World} (A : Option Addr) (m c : Nat) (ks : List Nat) (A2 : Option Addr) (dl c2 : Nat) (ds : List Bool) (hl : ks.length = m) (hr : RdV w w.heap.size A (uC ks)) (hl2 : ds.length = dl) (hr2 : RdV w w.heap.size A2 (tB ds)) : Calls Try.prog 4 #[.slice A m c, .slice A2 dl c2] w (BoolB true w) := by
  have HL := Lib.hid hl
  have HR := Lib.hid hr
  have HL2 := Lib.hid hl2
  have HR2 := Lib.hid hr2
  clear hl hr hl2 hr2
  go_enter Try.func4, Try.ntmps4
  go_wp2_with fail
  refine (xawake_true w).mono ?_
  rintro r w1 ⟨rfl, hb⟩
  have HB1 := Lib.hid hb
  clear hb
  by_cases hm64 : 64 < m
  · have g1 : (64 : Int) < (m : Int) := by omega
    go_wp2_with fail
    go_ret
    exact ⟨rfl, HB1.out⟩
  have g1 : decide ((64 : Int) < (m : Int)) = false := by simp; omega
  by_cases hd64 : 64 < dl
  · have g2 : (64 : Int) < (dl : Int) := by omega
    go_wp2_with fail
    go_ret
    exact ⟨rfl, HB1.out⟩
  have g2 : decide ((64 : Int) < (dl : Int)) = false := by simp; omega
  go_wp2_with fail
  refine (xnew_at 64 w1).mono ?_
  rintro r w2 h
  obtain ⟨hb, h⟩ := h
  rw [if_pos (by omega)] at h
  obtain ⟨rfl, hm⟩ := h
  obtain ⟨ka, hka⟩ : ∃ ka, w1.heap.size = ka := ⟨_, rfl⟩
  have HM2 : Hid (IX w w2 ka ⟨[], 64⟩) := Lib.hid ⟨by rw [← hka]; exact hm, by have := HB1.out.size; omega, below_all HB1.out hb⟩
  clear hm hb HB1
  rw [hka]
  clear hka
  go_wp2_with fail
  refine (xnew_at 64 w2).mono ?_
  rintro r w3 h
  obtain ⟨hb, h⟩ := h
  rw [if_pos (by omega)] at h
  obtain ⟨rfl, hm⟩ := h
  obtain ⟨kb, hkb⟩ : ∃ kb, w2.heap.size = kb := ⟨_, rfl⟩
  have HO3 : Hid (OX w w3 ka kb ⟨[], 64⟩ ⟨[], 64⟩) := Lib.hid ⟨HM2.out.m.up hb, by rw [← hkb]; exact hm, by have := HM2.out.m.lt; have := HM2.out.ge; omega, below_all HM2.out.old hb⟩
  clear hm hb HM2
  rw [hkb]
  clear hkb
  go_wp2_with fail
  go_loopg [45] m (fun q y wr => ∃ (i : Nat) (SA SB : IxS), i ≤ m ∧ q = m - i ∧ y = .int .i64 (i : Int) ∧ OX w wr ka kb SA SB ∧ Hold (PA (fun j => ks.getD j 0) i) SA ∧ SA.L.length ≤ i ∧ Hold (PB (fun j => ks.getD j 0) m i) SB ∧ SB.L.length ≤ i)
  case atStart => exact ⟨0, _, _, by omega, rfl, rfl, HO3.out, Hold.new.imp (fun e => ⟨fun ⟨j, hj, _⟩ => by omega, fun h => h.elim⟩), by simp, Hold.new.imp (fun e => ⟨fun ⟨j, hj, hm, _⟩ => by omega, fun h => h.elim⟩), by simp⟩
  case round =>
    clear HO3
    obtain ⟨i, SA, SB, hi, hq, rfl, hO, hA, hla, hB, hlb⟩ := hrel
    have HQ := Lib.hid hq
    have HO := Lib.hid hO
    have HA := Lib.hid hA
    have HB := Lib.hid hB
    clear hq hO hA hB
    by_cases hlt : i < m
    · obtain ⟨t, htm⟩ : ∃ t, i + 1 + t = m := ⟨m - (i + 1), by omega⟩
      have et : (m : Int) - 1 - (i : Int) = (t : Int) := by omega
      have wt : IntKind.i64.wrap (t : Int) = (t : Int) := IntWalk.i64_in _ (by omega)
      obtain ⟨b, o, rfl, hbl, hcell⟩ := HR.out (by rw [uC_len, HL.out]; omega)
      have hci := rd_u hcell i (by rw [HL.out]; exact hlt)
      have hct := rd_u hcell t (by rw [HL.out]; omega)
      have HPA := Lib.hid (HA.out.put hla (by omega) (fun e h => h.enc) (PA.step i))
      have HPB := Lib.hid (HB.out.put hlb (by omega) (fun e h => h.enc) (PB.step htm))
      obtain ⟨x, hx⟩ : ∃ x, ks.getD i 0 = x := ⟨_, rfl⟩
      obtain ⟨y, hy⟩ : ∃ y, ks.getD t 0 = y := ⟨_, rfl⟩
      simp only [hx] at hci HPA
      simp only [hy] at hct HPB
      have HW : Hid (∀ u, Below w.heap.size w u → Below w.heap.size w u) := Lib.hid (fun _ h => h)
      have hCX : ∀ u, Below w.heap.size w u → u.cell? ⟨b, o + i, none⟩ = some (.int .u32 (x : Int)) := fun u hu => (hu.cell (p := ⟨b, o + i, none⟩) hbl).trans hci
      have cy : wr.cell? ⟨b, o + t, none⟩ = some (.int .u32 (y : Int)) := (HO.out.old.cell (p := ⟨b, o + t, none⟩) hbl).trans hct
      have d0 : (i : Int) < (m : Int) := by omega
      have d1 : (t : Int) < (m : Int) := by omega
      have hwx : IntKind.i64.wrap ((x : Int).tmod 1000) = (x : Int) % 1000 := by
        rw [Int.tmod_eq_emod_of_nonneg (by omega)]
        exact IntWalk.i64_in _ (by omega)
      have hwy : IntKind.i64.wrap ((y : Int).tmod 1000) = (y : Int) % 1000 := by
        rw [Int.tmod_eq_emod_of_nonneg (by omega)]
        exact IntWalk.i64_in _ (by omega)
      have HCX : Hid (∀ u, Below w.heap.size w u → u.cell? ⟨b, o + i, none⟩ = some (.int .u32 (x : Int))) := Lib.hid hCX
      clear hcell hci hct hx hy hCX htm
      go_wp2_with fail
      refine wp_region_held_drew (S := fun u => u.cell? ⟨b, o + i, none⟩ = some (.int .u32 (x : Int))) (by kernel_rfl) (HCX.out _ HO.out.drew.old) (fun hHeld => ?_)
      show wpAnyH _ _ _ _ _ 22 _ _ _
      refine wpAnyH_take (i := 0) (v := ?_) rfl (by kernel_rfl) (by kernel_rfl) (by kernel_rfl) (fun _ _ _ h => h) (Or.inl ⟨by rfl, ?_⟩) hHeld ?_
      rotate_left
      · intro u hSu
        obtain x0 := hSu
        go_simp
        try with_reducible rfl
      try simp only [Act.put, List.setIfInBounds_toArray, List.set_cons_zero, List.set_cons_succ, List.getElem_toArray, List.getElem_cons_zero, List.getElem_cons_succ]
      refine wpAnyH_take (i := 1) (v := ?_) rfl (by kernel_rfl) (by kernel_rfl) (by kernel_rfl) (fun _ _ _ h => h) (Or.inl ⟨by rfl, ?_⟩) hHeld ?_
      rotate_left
      · intro u hSu
        obtain x0 := hSu
        go_simp
        try with_reducible rfl
      try simp only [Act.put, List.setIfInBounds_toArray, List.set_cons_zero, List.set_cons_succ, List.getElem_toArray, List.getElem_cons_zero, List.getElem_cons_succ]
      refine wpAnyH_take (i := 2) (v := ?_) rfl (by kernel_rfl) (by kernel_rfl) (by kernel_rfl) (fun _ _ _ h => h) (Or.inl ⟨by rfl, ?_⟩) hHeld ?_
      rotate_left
      · intro u hSu
        obtain x0 := hSu
        go_simp
        try with_reducible rfl
      try simp only [Act.put, List.setIfInBounds_toArray, List.set_cons_zero, List.set_cons_succ, List.getElem_toArray, List.getElem_cons_zero, List.getElem_cons_succ]
      refine wpAnyH_take (i := 3) (v := ?_) rfl (by kernel_rfl) (by kernel_rfl) (by kernel_rfl) (fun _ _ _ h => h) (Or.inl ⟨by rfl, ?_⟩) hHeld ?_
      rotate_left
      · intro u hSu
        obtain x0 := hSu
        go_simp
        try with_reducible rfl
      try simp only [Act.put, List.setIfInBounds_toArray, List.set_cons_zero, List.set_cons_succ, List.getElem_toArray, List.getElem_cons_zero, List.getElem_cons_succ]
      refine wpAnyH_take (i := 4) (v := ?_) rfl (by kernel_rfl) (by kernel_rfl) (by kernel_rfl) (fun _ _ _ h => h) (Or.inl ⟨by rfl, ?_⟩) hHeld ?_
      rotate_left
      · intro u hSu
        obtain x0 := hSu
        go_simp
        try with_reducible rfl
      try simp only [Act.put, List.setIfInBounds_toArray, List.set_cons_zero, List.set_cons_succ, List.getElem_toArray, List.getElem_cons_zero, List.getElem_cons_succ]
      refine wpAnyH_take (i := 5) (v := ?_) rfl (by kernel_rfl) (by kernel_rfl) (by kernel_rfl) (fun _ _ _ h => h) (Or.inl ⟨by rfl, ?_⟩) hHeld ?_
      rotate_left
      · intro u hSu
        obtain x0 := hSu
        go_simp
        try with_reducible rfl
      try simp only [Act.put, List.setIfInBounds_toArray, List.set_cons_zero, List.set_cons_succ, List.getElem_toArray, List.getElem_cons_zero, List.getElem_cons_succ]
      refine wpAnyH_take (i := 6) (v := ?_) rfl (by kernel_rfl) (by kernel_rfl) (by kernel_rfl) (fun _ _ _ h => h) (Or.inl ⟨by rfl, ?_⟩) hHeld ?_
      rotate_left
      · intro u hSu
        obtain x0 := hSu
        go_simp
        try with_reducible rfl
      try simp only [Act.put, List.setIfInBounds_toArray, List.set_cons_zero, List.set_cons_succ, List.getElem_toArray, List.getElem_cons_zero, List.getElem_cons_succ]
      refine wpAnyH_take (i := 7) (v := ?_) rfl (by kernel_rfl) (by kernel_rfl) (by kernel_rfl) (fun _ _ _ h => h) (Or.inl ⟨by rfl, ?_⟩) hHeld ?_
      rotate_left
      · intro u hSu
        obtain x0 := hSu
        go_simp
        try with_reducible rfl
      try simp only [Act.put, List.setIfInBounds_toArray, List.set_cons_zero, List.set_cons_succ, List.getElem_toArray, List.getElem_cons_zero, List.getElem_cons_succ]
      refine wpAnyH_take (i := 8) (v := ?_) rfl (by kernel_rfl) (by kernel_rfl) (by kernel_rfl) (fun _ _ _ h => h) (Or.inl ⟨by rfl, ?_⟩) hHeld ?_
      rotate_left
      · intro u hSu
        obtain x0 := hSu
        go_simp
        try with_reducible rfl
      try simp only [Act.put, List.setIfInBounds_toArray, List.set_cons_zero, List.set_cons_succ, List.getElem_toArray, List.getElem_cons_zero, List.getElem_cons_succ]
      refine wpAnyH_take (i := 9) (v := ?_) rfl (by kernel_rfl) (by kernel_rfl) (by kernel_rfl) (fun _ _ _ h => h) (Or.inl ⟨by rfl, ?_⟩) hHeld ?_
      rotate_left
      · intro u hSu
        obtain x0 := hSu
        go_simp
        try with_reducible rfl
      try simp only [Act.put, List.setIfInBounds_toArray, List.set_cons_zero, List.set_cons_succ, List.getElem_toArray, List.getElem_cons_zero, List.getElem_cons_succ]
      refine wpAnyH_take (i := 10) (v := ?_) rfl (by kernel_rfl) (by kernel_rfl) (by kernel_rfl) (fun _ _ _ h => h) (Or.inl ⟨by rfl, ?_⟩) hHeld ?_
      rotate_left
      · intro u hSu
        obtain x0 := hSu
        go_simp
        try with_reducible rfl
      try simp only [Act.put, List.setIfInBounds_toArray, List.set_cons_zero, List.set_cons_succ, List.getElem_toArray, List.getElem_cons_zero, List.getElem_cons_succ]
      refine wpAnyH_ready (rs := [11]) (by kernel_rfl) (by simp) ?_
      refine (AllReadyH.cons rfl (fun K hK => ?_) AllReadyH.nil)
      go_simp
      try rw [hwx]
      refine (xputK_at x HO.out.drew.a).mono ?_
      rintro r w4 h
      rw [HPA.out.1] at h
      obtain ⟨rfl, hm, hk⟩ := h
      have HO4 := Lib.hid (HO.out.drew.toA hm hk)
      clear hm hk
      refine hK.out _ _ ?_ (fun hHeld2 => ?_)
      · exact HCX.out w4 (HW.out w4 (HO4.out.old))
      clear hK K hHeld
      have hHeld := hHeld2
      clear hHeld2
      try simp only [Act.put, List.setIfInBounds_toArray, List.set_cons_zero, List.set_cons_succ, List.getElem_toArray, List.getElem_cons_zero, List.getElem_cons_succ]
      refine wpAnyH_take (i := 12) (v := ?_) rfl (by kernel_rfl) (by kernel_rfl) (by kernel_rfl) (fun _ _ _ h => h) (Or.inl ⟨by rfl, ?_⟩) hHeld ?_
      rotate_left
      · intro u hSu
        obtain x0 := hSu
        go_simp
        try with_reducible rfl
      try simp only [Act.put, List.setIfInBounds_toArray, List.set_cons_zero, List.set_cons_succ, List.getElem_toArray, List.getElem_cons_zero, List.getElem_cons_succ]
      refine wpAnyH_take (i := 13) (v := ?_) rfl (by kernel_rfl) (by kernel_rfl) (by kernel_rfl) (fun _ _ _ h => h) (Or.inl ⟨by rfl, ?_⟩) hHeld ?_
      rotate_left
      · intro u hSu
        obtain x0 := hSu
        go_simp
        try with_reducible rfl
      try simp only [Act.put, List.setIfInBounds_toArray, List.set_cons_zero, List.set_cons_succ, List.getElem_toArray, List.getElem_cons_zero, List.getElem_cons_succ]
      refine wpAnyH_take (i := 14) (v := ?_) rfl (by kernel_rfl) (by kernel_rfl) (by kernel_rfl) (fun _ _ _ h => h) (Or.inl ⟨by rfl, ?_⟩) hHeld ?_
      rotate_left
      · intro u hSu
        obtain x0 := hSu
        go_simp
        try with_reducible rfl
      try simp only [Act.put, List.setIfInBounds_toArray, List.set_cons_zero, List.set_cons_succ, List.getElem_toArray, List.getElem_cons_zero, List.getElem_cons_succ]
      refine wpAnyH_take (i := 15) (v := ?_) rfl (by kernel_rfl) (by kernel_rfl) (by kernel_rfl) (fun _ _ _ h => h) (Or.inl ⟨by rfl, ?_⟩) hHeld ?_
      rotate_left
      · intro u hSu
        obtain x0 := hSu
        go_simp
        try with_reducible rfl
      try simp only [Act.put, List.setIfInBounds_toArray, List.set_cons_zero, List.set_cons_succ, List.getElem_toArray, List.getElem_cons_zero, List.getElem_cons_succ]
      refine wpAnyH_take (i := 16) (v := ?_) rfl (by kernel_rfl) (by kernel_rfl) (by kernel_rfl) (fun _ _ _ h => h) (Or.inl ⟨by rfl, ?_⟩) hHeld ?_
      rotate_left
      · intro u hSu
        obtain x0 := hSu
        go_simp
        try with_reducible rfl
      try simp only [Act.put, List.setIfInBounds_toArray, List.set_cons_zero, List.set_cons_succ, List.getElem_toArray, List.getElem_cons_zero, List.getElem_cons_succ]
      refine wpAnyH_take (i := 17) (v := ?_) rfl (by kernel_rfl) (by kernel_rfl) (by kernel_rfl) (fun _ _ _ h => h) (Or.inl ⟨by rfl, ?_⟩) hHeld ?_
      rotate_left
      · intro u hSu
        obtain x0 := hSu
        go_simp
        try with_reducible rfl
      try simp only [Act.put, List.setIfInBounds_toArray, List.set_cons_zero, List.set_cons_succ, List.getElem_toArray, List.getElem_cons_zero, List.getElem_cons_succ]
      refine wpAnyH_take (i := 18) (v := ?_) rfl (by kernel_rfl) (by kernel_rfl) (by kernel_rfl) (fun _ _ _ h => h) (Or.inl ⟨by rfl, ?_⟩) hHeld ?_
      rotate_left
      · intro u hSu
        obtain x0 := hSu
        go_simp
        try with_reducible rfl
      try simp only [Act.put, List.setIfInBounds_toArray, List.set_cons_zero, List.set_cons_succ, List.getElem_toArray, List.getElem_cons_zero, List.getElem_cons_succ]
      refine wpAnyH_ready (rs := [19]) (by kernel_rfl) (by simp) ?_
      refine (AllReadyH.cons rfl (fun K hK => ?_) AllReadyH.nil)
      go_simp
      try rw [hwy]
      refine (xputK_at y HO4.out.b).mono ?_
      rintro r w5 h
      rw [HPB.out.1] at h
      obtain ⟨rfl, hm, hk⟩ := h
      have HO5 := Lib.hid (HO4.out.toB hm hk)
      clear hm hk
      refine hK.out _ _ ?_ (fun hHeld2 => ?_)
      · exact HCX.out w5 (HW.out w5 (HO5.out.old))
      clear hK K hHeld
      have hHeld := hHeld2
      clear hHeld2
      try simp only [Act.put, List.setIfInBounds_toArray, List.set_cons_zero, List.set_cons_succ, List.getElem_toArray, List.getElem_cons_zero, List.getElem_cons_succ]
      refine wpAnyH_take (i := 20) (v := ?_) rfl (by kernel_rfl) (by kernel_rfl) (by kernel_rfl) (fun _ _ _ h => h) (Or.inl ⟨by rfl, ?_⟩) hHeld ?_
      rotate_left
      · intro u hSu
        obtain x0 := hSu
        go_simp
        try with_reducible rfl
      try simp only [Act.put, List.setIfInBounds_toArray, List.set_cons_zero, List.set_cons_succ, List.getElem_toArray, List.getElem_cons_zero, List.getElem_cons_succ]
      refine wpAnyH_take (i := 21) (v := ?_) rfl (by kernel_rfl) (by kernel_rfl) (by kernel_rfl) (fun _ _ _ h => h) (Or.inl ⟨by rfl, ?_⟩) hHeld ?_
      rotate_left
      · intro u hSu
        obtain x0 := hSu
        go_simp
        try with_reducible rfl
      try simp only [Act.put, List.setIfInBounds_toArray, List.set_cons_zero, List.set_cons_succ, List.getElem_toArray, List.getElem_cons_zero, List.getElem_cons_succ]
      refine wpAnyH_done (by kernel_rfl) ?_ _
      clear hHeld
      go_wp2_with fail
      go_roundg (m - (i + 1))
      case rel => exact ⟨i + 1, _, _, by omega, rfl, by go_num, HO5.out, HPA.out.2.1, HPA.out.2.2, HPB.out.2.1, HPB.out.2.2⟩
      case measure => have := HQ.out; omega
    · obtain rfl : i = m := by omega
      have HDA0 := Lib.hid (HA.out.imp (DA.zero (d := fun j => ds.getD j false) (dl := dl)))
      have HDB0 := Lib.hid ((HB.out.imp (fun e => (PB.all e).symm)).imp (DB.zero (d := fun j => ds.getD j false) (dl := dl)))
      obtain ⟨m, hmi⟩ : ∃ m, i = m := ⟨_, rfl⟩
      subst hmi
      clear HA HB hla hlb
      go_wp2_with fail
      go_loopg [81] i (fun q y w5 => ∃ (j : Nat) (SA SB : IxS), j ≤ i ∧ q = i - j ∧ y = .int .i64 (j : Int) ∧ OX w w5 ka kb SA SB ∧ Hold (DA (fun j => ks.getD j 0) (fun j => ds.getD j false) i dl j) SA ∧ Hold (DB (fun j => ks.getD j 0) (fun j => ds.getD j false) i dl j) SB)
      case atStart => exact ⟨0, _, _, by omega, rfl, rfl, HO.out, HDA0.out, HDB0.out⟩
      case round =>
        clear HO HDA0 HDB0 HQ
        obtain ⟨m, hmi⟩ : ∃ m, i = m := ⟨_, rfl⟩
        subst hmi
        obtain ⟨j, SA, SB, hj, hq, rfl, hO, hA, hB⟩ := hrel
        have HQ := Lib.hid hq
        have HO1 := Lib.hid hO
        have HDA := Lib.hid hA
        have HDB := Lib.hid hB
        clear hq hO hA hB
        by_cases hlt : j < i
        · obtain ⟨t, htm⟩ : ∃ t, j + 1 + t = i := ⟨i - (j + 1), by omega⟩
          have et : (i : Int) - 1 - (j : Int) = (t : Int) := by omega
          have wt : IntKind.i64.wrap (t : Int) = (t : Int) := IntWalk.i64_in _ (by omega)
          have HTM := Lib.hid htm
          obtain ⟨b, o, rfl, hbl, hcell⟩ := HR.out (by rw [uC_len, HL.out]; omega)
          have hcj := rd_u hcell j (by rw [HL.out]; exact hlt)
          have hct := rd_u hcell t (by rw [HL.out]; omega)
          obtain ⟨f, hf⟩ : ∃ f : Nat → Nat, (fun j => ks.getD j 0) = f := ⟨_, rfl⟩
          obtain ⟨x, hx⟩ : ∃ x, f j = x := ⟨_, rfl⟩
          obtain ⟨y, hy⟩ : ∃ y, f t = y := ⟨_, rfl⟩
          have hx2 : ks.getD j 0 = x := by rw [← hx, ← hf]
          have hy2 : ks.getD t 0 = y := by rw [← hy, ← hf]
          rw [hx2] at hcj
          rw [hy2] at hct
          have HXX := Lib.hid hx2
          have HYY := Lib.hid hy2
          have cx : wr.cell? ⟨b, o + j, none⟩ = some (.int .u32 (x : Int)) := (HO1.out.old.cell (p := ⟨b, o + j, none⟩) hbl).trans hcj
          have HCY : Hid (∀ u, Below w.heap.size w u → u.cell? ⟨b, o + t, none⟩ = some (.int .u32 (y : Int))) := Lib.hid (fun u hu => (hu.cell (p := ⟨b, o + t, none⟩) hbl).trans hct)
          have d0 : (j : Int) < (i : Int) := by omega
          have d1 : (t : Int) < (i : Int) := by omega
          clear hcell hcj hct hx hy hx2 hy2 hf htm
          by_cases hjd : j < dl
          · have hgj : (j : Int) < (dl : Int) := by omega
            obtain ⟨b2, o2, rfl, hbl2, hcell2⟩ := (HR2.out.below HO1.out.old) (by rw [tB_len, HL2.out]; omega)
            have cd := rd_t hcell2 j (by rw [HL2.out]; exact hjd)
            clear hcell2
            cases hdj : ds.getD j false with
            | true =>
              have HDA2 : Hid (Hold _ (SA.dropS x)) := Lib.hid (HDA.out.drop (k := x) (Q := DA (fun j => ks.getD j 0) (fun j => ds.getD j false) i dl (j + 1)) (by rw [← HXX.out]; exact DA.yes hjd hdj))
              rw [hdj] at cd
              clear hdj
              go_wp2_with fail
              refine (xdrop_at x HO1.out.a).mono ?_
              rintro r w6 h
              obtain ⟨rfl, hm, hk⟩ := h
              have HO2 := Lib.hid (HO1.out.toA hm hk)
              clear hm hk HDA cx cd
              by_cases htd : t < dl
              · have hgt : (t : Int) < (dl : Int) := by omega
                obtain ⟨b3, o3, e3, hbl3, hcell2⟩ := (HR2.out.below HO2.out.old) (by rw [tB_len, HL2.out]; omega)
                injection Option.some.inj e3 with e4 e5
                subst e4 e5
                have cd := rd_t hcell2 t (by rw [HL2.out]; exact htd)
                clear hcell2
                cases hdt : ds.getD t false with
                | true =>
                  have HDB2 := Lib.hid (show Hold (DB (fun j => ks.getD j 0) (fun j => ds.getD j false) i dl (j + 1)) (SB.dropS y) from HDB.out.drop (by rw [← HYY.out]; exact DB.yes HTM.out htd hdt))
                  rw [hdt] at cd
                  clear hdt
                  have cy := HCY.out _ HO2.out.old
                  go_wp2_with fail
                  refine (xdrop_at y HO2.out.b).mono ?_
                  rintro r w7 h
                  obtain ⟨rfl, hm, hk⟩ := h
                  have HO9 := Lib.hid (HO2.out.toB hm hk)
                  clear hm hk
                  go_wp2_with fail
                  go_roundg (i - (j + 1))
                  case rel => exact ⟨j + 1, _, _, by omega, rfl, by go_num, HO9.out, HDA2.out, HDB2.out⟩
                  case measure => have := HQ.out; omega
                | false =>
                  have HDB2 := Lib.hid (HDB.out.imp (DB.no HTM.out (by rw [hdt]; simp)))
                  rw [hdt] at cd
                  clear hdt
                  go_wp2_with fail
                  go_roundg (i - (j + 1))
                  case rel => exact ⟨j + 1, _, _, by omega, rfl, by go_num, HO2.out, HDA2.out, HDB2.out⟩
                  case measure => have := HQ.out; omega
              · have hgt : ¬ ((t : Int) < (dl : Int)) := by omega
                have HDB2 := Lib.hid (HDB.out.imp (DB.no HTM.out (by omega)))
                go_wp2_with fail
                go_roundg (i - (j + 1))
                case rel => exact ⟨j + 1, _, _, by omega, rfl, by go_num, HO2.out, HDA2.out, HDB2.out⟩
                case measure => have := HQ.out; omega
            | false =>
              have HDA1 := Lib.hid (HDA.out.imp (DA.no (by rw [hdj]; simp)))
              rw [hdj] at cd
              clear hdj HDA
              by_cases htd : t < dl
              · have hgt : (t : Int) < (dl : Int) := by omega
                obtain ⟨b3, o3, e3, hbl3, hcell2⟩ := (HR2.out.below HO1.out.old) (by rw [tB_len, HL2.out]; omega)
                injection Option.some.inj e3 with e4 e5
                subst e4 e5
                have cd := rd_t hcell2 t (by rw [HL2.out]; exact htd)
                clear hcell2
                cases hdt : ds.getD t false with
                | true =>
                  have HDB2 := Lib.hid (show Hold (DB (fun j => ks.getD j 0) (fun j => ds.getD j false) i dl (j + 1)) (SB.dropS y) from HDB.out.drop (by rw [← HYY.out]; exact DB.yes HTM.out htd hdt))
                  rw [hdt] at cd
                  clear hdt
                  have cy := HCY.out _ HO1.out.old
                  go_wp2_with fail
                  refine (xdrop_at y HO1.out.b).mono ?_
                  rintro r w7 h
                  obtain ⟨rfl, hm, hk⟩ := h
                  have HO9 := Lib.hid (HO1.out.toB hm hk)
                  clear hm hk
                  go_wp2_with fail
                  go_roundg (i - (j + 1))
                  case rel => exact ⟨j + 1, _, _, by omega, rfl, by go_num, HO9.out, HDA1.out, HDB2.out⟩
                  case measure => have := HQ.out; omega
                | false =>
                  have HDB2 := Lib.hid (HDB.out.imp (DB.no HTM.out (by rw [hdt]; simp)))
                  rw [hdt] at cd
                  clear hdt
                  go_wp2_with fail
                  go_roundg (i - (j + 1))
                  case rel => exact ⟨j + 1, _, _, by omega, rfl, by go_num, HO1.out, HDA1.out, HDB2.out⟩
                  case measure => have := HQ.out; omega
              · have hgt : ¬ ((t : Int) < (dl : Int)) := by omega
                have HDB2 := Lib.hid (HDB.out.imp (DB.no HTM.out (by omega)))
                go_wp2_with fail
                go_roundg (i - (j + 1))
                case rel => exact ⟨j + 1, _, _, by omega, rfl, by go_num, HO1.out, HDA1.out, HDB2.out⟩
                case measure => have := HQ.out; omega
          · have hgj : ¬ ((j : Int) < (dl : Int)) := by omega
            have HDA1 := Lib.hid (HDA.out.imp (DA.no (by omega)))
            clear HDA
            by_cases htd : t < dl
            · have hgt : (t : Int) < (dl : Int) := by omega
              obtain ⟨b2, o2, rfl, hbl2, hcell2⟩ := (HR2.out.below HO1.out.old) (by rw [tB_len, HL2.out]; omega)
              have cd := rd_t hcell2 t (by rw [HL2.out]; exact htd)
              clear hcell2
              cases hdt : ds.getD t false with
              | true =>
                have HDB2 := Lib.hid (show Hold (DB (fun j => ks.getD j 0) (fun j => ds.getD j false) i dl (j + 1)) (SB.dropS y) from HDB.out.drop (by rw [← HYY.out]; exact DB.yes HTM.out htd hdt))
                rw [hdt] at cd
                clear hdt
                have cy := HCY.out _ HO1.out.old
                go_wp2_with fail
                refine (xdrop_at y HO1.out.b).mono ?_
                rintro r w7 h
                obtain ⟨rfl, hm, hk⟩ := h
                have HO9 := Lib.hid (HO1.out.toB hm hk)
                clear hm hk
                go_wp2_with fail
                go_roundg (i - (j + 1))
                case rel => exact ⟨j + 1, _, _, by omega, rfl, by go_num, HO9.out, HDA1.out, HDB2.out⟩
                case measure => have := HQ.out; omega
              | false =>
                have HDB2 := Lib.hid (HDB.out.imp (DB.no HTM.out (by rw [hdt]; simp)))
                rw [hdt] at cd
                clear hdt
                go_wp2_with fail
                go_roundg (i - (j + 1))
                case rel => exact ⟨j + 1, _, _, by omega, rfl, by go_num, HO1.out, HDA1.out, HDB2.out⟩
                case measure => have := HQ.out; omega
            · have hgt : ¬ ((t : Int) < (dl : Int)) := by omega
              have HDB2 := Lib.hid (HDB.out.imp (DB.no HTM.out (by omega)))
              go_wp2_with fail
              go_roundg (i - (j + 1))
              case rel => exact ⟨j + 1, _, _, by omega, rfl, by go_num, HO1.out, HDA1.out, HDB2.out⟩
              case measure => have := HQ.out; omega
        · obtain rfl : j = i := by omega
          have he := HDA.out.same HDB.out D.all
          subst he
          have HS := Lib.hid HDA.out
          clear HDA HDB
          go_wp2_with fail
          go_loopg [124] j (fun q y w6 => ∃ (k : Nat), k ≤ j ∧ q = j - k ∧ y = .int .i64 (k : Int) ∧ OX w w6 ka kb SA SA)
          case atStart => exact ⟨0, by omega, rfl, rfl, HO1.out⟩
          case round =>
            clear HO1 HQ
            obtain ⟨k, hk, hq, rfl, hO⟩ := hrel
            have HQ := Lib.hid hq
            have HO := Lib.hid hO
            clear hq hO
            by_cases hlt : k < j
            · obtain ⟨b, o, rfl, hbl, hcell⟩ := HR.out (by rw [uC_len, HL.out]; omega)
              have hck := rd_u hcell k (by rw [HL.out]; exact hlt)
              obtain ⟨x, hx⟩ : ∃ x, ks.getD k 0 = x := ⟨_, rfl⟩
              rw [hx] at hck
              have cx : wr.cell? ⟨b, o + k, none⟩ = some (.int .u32 (x : Int)) := (HO.out.old.cell (p := ⟨b, o + k, none⟩) hbl).trans hck
              have d0 : (k : Int) < (j : Int) := by omega
              clear hcell hck hx
              go_wp2_with fail
              refine (xget_at x HO.out.a).mono ?_
              rintro r w7 ⟨rfl, hb⟩
              have HO7 := Lib.hid (HO.out.up hb)
              clear hb
              cases hh : SA.has x with
              | true =>
                have hg : SA.getN x = (x : Int) % 1000 := by
                  have := HS.out.slot (fun e h => h.1.enc) hh
                  omega
                have q : (((x : Int) % 1000) != ((x : Int) % 1000)) = false := by simp
                rw [hg]
                go_wp2_with fail
                refine (xget_at x HO7.out.b).mono ?_
                rintro r w8 ⟨rfl, hb⟩
                have HO8 := Lib.hid (HO7.out.up hb)
                rw [hh, hg]
                clear hb hh hg
                go_wp2_with fail
                go_roundg (j - (k + 1))
                case rel => exact ⟨k + 1, by omega, rfl, by go_num, HO8.out⟩
                case measure => have := HQ.out; omega
              | false =>
                obtain ⟨gx, hg⟩ : ∃ gx, SA.getN x = gx := ⟨_, rfl⟩
                have q : (gx != gx) = false := by simp
                rw [hg]
                go_wp2_with fail
                refine (xget_at x HO7.out.b).mono ?_
                rintro r w8 ⟨rfl, hb⟩
                have HO8 := Lib.hid (HO7.out.up hb)
                rw [hh, hg]
                clear hb hh hg
                go_wp2_with fail
                go_roundg (j - (k + 1))
                case rel => exact ⟨k + 1, by omega, rfl, by go_num, HO8.out⟩
                case measure => have := HQ.out; omega
            · have HLN := Lib.hid (show (keysL SA.L).length = SA.L.length by simp [keysL])
              have hle := HS.out.wf.le
              rw [HS.out.room] at hle
              obtain ⟨n, hn⟩ : ∃ n, SA.L.length = n := ⟨_, rfl⟩
              rw [hn] at HLN hle
              have HN := Lib.hid hn
              clear hn
              go_wp2_with fail
              refine (xkeys_at HO.out.a).mono ?_
              rintro r w7 ⟨A7, c7, rfl, hF, hb⟩
              have HO7 := Lib.hid (HO.out.up hb)
              have HF7 := Lib.hid hF
              rw [HLN.out] at HF7 ⊢
              clear hb hF
              go_wp2_with fail
              refine (xkeys_at HO7.out.b).mono ?_
              rintro r w8 ⟨A8, c8, rfl, hF, hb⟩
              have HO8 := Lib.hid (HO7.out.up hb)
              have HF8 := Lib.hid hF
              have HF9 := Lib.hid (HF7.out.up hb)
              rw [HLN.out] at HF8 ⊢
              clear hb hF HF7
              go_wp2_with fail
              refine (xnum_at (keysL SA.L) HLN.out (RowF.rdU HF9.out) (RowF.rdU HF8.out) (by omega)).mono ?_
              rintro r w9 ⟨rfl, hb⟩
              have HO9 := Lib.hid (HO8.out.up hb)
              clear hb HF8 HF9
              have HLa := Lib.hid (xlen_at HO9.out.a)
              have HLb := Lib.hid (xlen_at HO9.out.b)
              rw [HN.out] at HLa HLb
              have q : ((n : Int) == (n : Int)) = true := by simp
              go_wp2_with fail
              refine HLa.out.mono ?_
              rintro r w' ⟨rfl, rfl⟩
              go_wp2_with fail
              refine HLb.out.mono ?_
              rintro r w' ⟨rfl, rfl⟩
              go_wp2_with fail
              go_ret
              exact ⟨rfl, HO9.out.old⟩
end Go.Proofs.Ytekaeeckhfghpaa
