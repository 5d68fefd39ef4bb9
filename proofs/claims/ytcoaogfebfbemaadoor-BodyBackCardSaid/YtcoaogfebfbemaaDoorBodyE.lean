/-
  body.ToPlaces.
-/
import Derived.Test.YtcoaogfebfbemaaDoorBodyC
import Derived.Test.YtcoaogfebfbemaaDoorCodeA
namespace Go.Proofs.YtcoaogfebfbemaaDoor
open Go.RowKit

/-- Four cells: the first i numbers of ns, v, and none behind. -/
def cellsAt (ns : List Int) (i : Nat) (v : Int) : List Value := u32s (ns.take i ++ v :: List.replicate (3 - i) 0)
theorem cellsAt_set {ns : List Int} {i : Nat} (u v : Int) (h : i < ns.length) : (cellsAt ns i u).set i (.int .u32 v) = cellsAt ns i v := by
  unfold cellsAt u32s
  rw [List.map_append, List.map_append, List.set_append_right _ _ (by simp; omega)]
  have e : i - (List.map (Value.int .u32) (ns.take i)).length = 0 := by simp; omega
  rw [e]
  rfl
theorem cellsAt_len {ns : List Int} {i : Nat} (v : Int) (h : i < ns.length) (hl : ns.length = 4) : (cellsAt ns i v).length = 4 := by
  unfold cellsAt
  rw [u32s_len]
  simp
  omega
theorem cellsAt_get {ns : List Int} {i : Nat} (v : Int) (h : i < ns.length) (hl : ns.length = 4) : (cellsAt ns i v)[i]'(by rw [cellsAt_len v h hl]; omega) = .int .u32 v := by
  unfold cellsAt u32s
  rw [List.getElem_map, List.getElem_append_right (by simp; omega)]
  simp [show i - min i ns.length = 0 by omega]
theorem cellsAt_zero {ns : List Int} {i : Nat} (h : i < 4) : cellsAt ns i 0 = u32s (ns.take i ++ List.replicate (4 - i) 0) := by
  unfold cellsAt
  rw [show 4 - i = 3 - i + 1 by omega, List.replicate_succ]
theorem cellsAt_end {ns : List Int} {i : Nat} (h : i < ns.length) : cellsAt ns i ns[i] = u32s (ns.take (i + 1) ++ List.replicate (4 - (i + 1)) 0) := by
  unfold cellsAt
  rw [List.take_succ_eq_append_getElem h, show 4 - (i + 1) = 3 - i by omega, List.append_assoc]
  rfl
theorem to_short (A : Option Addr) (n c : Nat) (w : World) (h : n ≠ 16) : Calls Tryd.prog 6 #[.slice A n c] w fun r w' => r = .returned (.tuple #[pV 0 0 0 0, .iface 31 (.int .i64 3)]) ∧ Below w.heap.size w w' := by
  have q1 : ((n : Int) == 16) = false := by simp; omega
  have HB0 := Lib.hid ((Below.refl w.heap.size w).alloc (Nat.le_refl _) (.cells #[.int .u32 0, .int .u32 0, .int .u32 0, .int .u32 0] 24))
  go_enter Tryd.func6, Tryd.ntmps6
  go_wp2_with fail
  refine bodyPost_ret (v := .tuple #[.agg #[.int .u32 0, .int .u32 0, .int .u32 0, .int .u32 0], .iface 31 (.int .i64 3)]) (by simp [results, Tryd.results6, go_sem]) rfl ⟨rfl, ?_⟩
  exact HB0.out

set_option maxHeartbeats 4000000 in
set_option maxRecDepth 100000 in
theorem to_ok (b o c : Nat) (xs : List Int) (w : World) (hr : Rd w w.heap.size (some ⟨b, o, none⟩) xs) (hx : Byt xs) (hl : xs.length = 16) (_hc : 16 ≤ c) :
    Calls Tryd.prog 6 #[.slice (some ⟨b, o, none⟩) 16 c] w fun r w' => r = .returned (.tuple #[pV (bk xs 0) (bk xs 4) (bk xs 8) (bk xs 12), .nilIface]) ∧ Below w.heap.size w w' := by
  obtain ⟨_, _, hA, hbl, _⟩ := hr (by omega)
  injection hA with hA
  injection hA with e1 e2
  subst e1 e2
  have HR := Lib.hid hr
  have HX := Lib.hid hx
  have HL := Lib.hid hl
  clear hr hx hl
  have HB0 := Lib.hid ((Below.refl w.heap.size w).alloc (Nat.le_refl _) (.cells #[.int .u32 0, .int .u32 0, .int .u32 0, .int .u32 0] 24))
  have HH0 := Lib.hid (blk_new w 0 0 0 0 24)
  go_enter Tryd.func6, Tryd.ntmps6
  go_wp2_with fail
  obtain ⟨w1, hw1⟩ : ∃ w1 : World, w1 = w.alloc (.cells #[.int .u32 0, .int .u32 0, .int .u32 0, .int .u32 0] 24) := ⟨_, rfl⟩
  have hz1 : w1.heap.size = w.heap.size + 1 := by rw [hw1]; simp
  rw [← hw1] at HB0 HH0 ⊢
  clear hw1
  have HB2 := Lib.hid (HB0.out.alloc HB0.out.size (.cells #[.int .u32 0, .int .u32 0, .int .u32 0, .int .u32 0] 24))
  have HH2 := Lib.hid (HH0.out.up (Below.alloc (Below.refl w1.heap.size w1) (Nat.le_refl _) (.cells #[.int .u32 0, .int .u32 0, .int .u32 0, .int .u32 0] 24)) (lt_of_block HH0.out))
  have HP2 := Lib.hid (blk_new w1 0 0 0 0 24)
  rw [hz1] at HP2
  clear hz1 HB0 HH0
  obtain ⟨w2, hw2⟩ : ∃ w2 : World, w2 = w1.alloc (.cells #[.int .u32 0, .int .u32 0, .int .u32 0, .int .u32 0] 24) := ⟨_, rfl⟩
  rw [← hw2] at HB2 HH2 HP2 ⊢
  clear hw2
  obtain ⟨ns, hns⟩ : ∃ ns : List Int, ns = [bk xs 0, bk xs 4, bk xs 8, bk xs 12] := ⟨_, rfl⟩
  have hnl : ns.length = 4 := by rw [hns]; rfl
  have HN : Hid (∀ i (h : i < ns.length), ns[i] = bk xs (4 * i)) := Lib.hid (fun i h => by
    subst hns
    have hi : i < 4 := h
    rcases i with _ | _ | _ | _ | i
    all_goals first | omega | rfl)
  have HG : Hid (∀ k, 0 ≤ xs.getD k 0 ∧ xs.getD k 0 ≤ 255) := Lib.hid (fun k => by
    rw [List.getD_eq_getElem?_getD]
    by_cases h : k < xs.length
    · rw [List.getElem?_eq_getElem h]; exact HX.out.get k h
    · rw [List.getElem?_eq_none (by omega)]; simp)
  have HC0 : Hid (∀ wr, w2.grownBy wr (some (w.heap.size + 1)) → ∀ k, k < 16 → wr.cell? ⟨b, o + k, none⟩ = some (.int .u8 (xs.getD k 0))) := Lib.hid (fun wr hg k hk => by
    obtain ⟨b', o', hA, _, hc⟩ := HR.out.below (HB2.out.grown hg HB2.out.size (fun j hj => by injection hj; omega)) (by rw [HL.out]; omega)
    injection hA with hA
    injection hA with e1 e2
    subst e1 e2
    have hkl : k < xs.length := by rw [HL.out]; exact hk
    rw [List.getD_eq_getElem?_getD, List.getElem?_eq_getElem hkl]
    exact hc k hkl)
  have HNS := Lib.hid hns
  clear hns HR HX HL
  go_loopg [12] 4 (fun k x wr => ∃ i : Nat, i ≤ 4 ∧ k = 4 - i ∧ x = .int .i64 i ∧ w2.grownBy wr (some (w.heap.size + 1)) ∧ Blk wr (w.heap.size + 1) 24 (u32s (ns.take i ++ List.replicate (4 - i) 0)))
  case atStart => exact ⟨0, by omega, by omega, rfl, World.grownBy.refl _ _, HP2.out⟩
  case round =>
    clear HP2
    obtain ⟨i, hi, hk, rfl, hgr, hbl⟩ := hrel
    have HK := Lib.hid hk
    have HGR := Lib.hid hgr
    clear hk hgr
    by_cases hlt : i < 4
    · have hln : i < ns.length := by omega
      have HBL : Hid (Blk wr (w.heap.size + 1) 24 (cellsAt ns i 0)) := Lib.hid (by rw [cellsAt_zero hlt]; exact hbl)
      clear hbl
      have HI := Lib.hid (And.intro hln hnl)
      have HE := Lib.hid (cellsAt_end hln)
      have hx : ns[i] = back4 (xs.getD (4 * i) 0) (xs.getD (4 * i + 1) 0) (xs.getD (4 * i + 2) 0) (xs.getD (4 * i + 3) 0) := HN.out i hln
      have b0 := HG.out (4 * i)
      have b1 := HG.out (4 * i + 1)
      have b2 := HG.out (4 * i + 2)
      have b3 := HG.out (4 * i + 3)
      have HC : Hid (∀ wr, w2.grownBy wr (some (w.heap.size + 1)) → wr.cell? ⟨b, o + 4 * i, none⟩ = some (.int .u8 (xs.getD (4 * i) 0)) ∧ wr.cell? ⟨b, o + (4 * i + 1), none⟩ = some (.int .u8 (xs.getD (4 * i + 1) 0)) ∧ wr.cell? ⟨b, o + (4 * i + 2), none⟩ = some (.int .u8 (xs.getD (4 * i + 2) 0)) ∧ wr.cell? ⟨b, o + (4 * i + 3), none⟩ = some (.int .u8 (xs.getD (4 * i + 3) 0))) :=
        Lib.hid (fun wr hg => ⟨HC0.out wr hg _ (by omega), HC0.out wr hg _ (by omega), HC0.out wr hg _ (by omega), HC0.out wr hg _ (by omega)⟩)
      obtain ⟨x0, e0⟩ : ∃ x, xs.getD (4 * i) 0 = x := ⟨_, rfl⟩
      obtain ⟨x1, e1⟩ : ∃ x, xs.getD (4 * i + 1) 0 = x := ⟨_, rfl⟩
      obtain ⟨x2, e2⟩ : ∃ x, xs.getD (4 * i + 2) 0 = x := ⟨_, rfl⟩
      obtain ⟨x3, e3⟩ : ∃ x, xs.getD (4 * i + 3) 0 = x := ⟨_, rfl⟩
      rw [e0, e1, e2, e3] at hx HC
      rw [e0] at b0
      rw [e1] at b1
      rw [e2] at b2
      rw [e3] at b3
      clear e0 e1 e2 e3
      have HX2 : Hid (part x0 x1 x2 x3 4 = ns[i]) := Lib.hid (by rw [hx]; unfold back4; show x0 + x1 * 256 + x2 * 65536 + x3 * 16777216 = _; omega)
      clear hx
      go_wp2_with fail
      obtain ⟨wo, rfl⟩ : ∃ wo : World, wo = wr := ⟨_, rfl⟩
      go_loopg [15] 4 (fun k y wr => ∃ j : Nat, j ≤ 4 ∧ k = 4 - j ∧ y = .int .i64 j ∧ w2.grownBy wr (some (w.heap.size + 1)) ∧ Blk wr (w.heap.size + 1) 24 (cellsAt ns i (part x0 x1 x2 x3 j)))
      case atStart => exact ⟨0, by omega, by omega, rfl, HGR.out, HBL.out⟩
      case round =>
        clear HGR HBL
        obtain ⟨j, hj, hk, rfl, hgr, hbl⟩ := hrel
        have HK2 := Lib.hid hk
        have HGR := Lib.hid hgr
        have HBL := Lib.hid hbl
        clear hk hgr hbl
        by_cases hlt2 : j < 4
        · have f1 := Blk.free HBL.out i
          have f2 := Blk.cell HBL.out i (by rw [cellsAt_len _ HI.out.1 HI.out.2]; omega)
          rw [cellsAt_get _ HI.out.1 HI.out.2] at f2
          have HCR := Lib.hid (HC.out wr HGR.out)
          have hj4 : j = 0 ∨ j = 1 ∨ j = 2 ∨ j = 3 := by omega
          clear hj hlt2
          rcases hj4 with rfl | rfl | rfl | rfl
          · obtain ⟨t, ht⟩ : ∃ t : Nat, (i : Int) * 4 = (t : Int) := ⟨4 * i + 0, by omega⟩
            have ht2 : t = 4 * i + 0 := by omega
            have c1 : wr.cell? ⟨b, o + t, none⟩ = some (.int .u8 x0) := by rw [show t = 4 * i by omega]; exact HCR.out.1
            have HA : Hid (bits .or .u32 (0) (x0) = part x0 x1 x2 x3 (0 + 1)) := Lib.hid (by have := or_part (a := 0) (x := x0) 0 (by omega) (by omega) b0.1 (by omega); simpa [part] using this)
            have HPP : Hid (Blk (wr.setCell ⟨w.heap.size + 1, i, none⟩ (.int .u32 (bits .or .u32 (0) (x0)))) (w.heap.size + 1) 24 (cellsAt ns i (part x0 x1 x2 x3 (0 + 1)))) := Lib.hid (by
              rw [HA.out]
              have := Blk.put HBL.out i (.int .u32 (part x0 x1 x2 x3 (0 + 1)))
              rwa [cellsAt_set _ _ HI.out.1] at this)
            have htn : t < 16 := by omega
            have f3 : wr.cell? ⟨w.heap.size + 1, i, none⟩ = some (.int .u32 (0)) := f2
            clear ht2 f2
            go_wp2_with fail
            go_region
            go_wp2_with fail
            go_roundg (4 - (0 + 1))
            case rel => exact ⟨0 + 1, by omega, rfl, by go_num, grown_drew (grown_put HGR.out _ _), HPP.out⟩
            case measure => have := HK2.out; omega
          · obtain ⟨t, ht⟩ : ∃ t : Nat, (i : Int) * 4 + 1 = (t : Int) := ⟨4 * i + 1, by omega⟩
            have ht2 : t = 4 * i + 1 := by omega
            have c1 : wr.cell? ⟨b, o + t, none⟩ = some (.int .u8 x1) := by rw [show t = (4 * i + 1) by omega]; exact HCR.out.2.1
            have HA : Hid (bits .or .u32 (x0) (x1 * 256) = part x0 x1 x2 x3 (1 + 1)) := Lib.hid (or_part (a := x0) (x := x1) 8 (by omega) (by omega) b1.1 (by omega))
            have HPP : Hid (Blk (wr.setCell ⟨w.heap.size + 1, i, none⟩ (.int .u32 (bits .or .u32 (x0) (x1 * 256)))) (w.heap.size + 1) 24 (cellsAt ns i (part x0 x1 x2 x3 (1 + 1)))) := Lib.hid (by
              rw [HA.out]
              have := Blk.put HBL.out i (.int .u32 (part x0 x1 x2 x3 (1 + 1)))
              rwa [cellsAt_set _ _ HI.out.1] at this)
            have htn : t < 16 := by omega
            have f3 : wr.cell? ⟨w.heap.size + 1, i, none⟩ = some (.int .u32 (x0)) := f2
            clear ht2 f2
            go_wp2_with fail
            go_region
            go_wp2_with fail
            go_roundg (4 - (1 + 1))
            case rel => exact ⟨1 + 1, by omega, rfl, by go_num, grown_drew (grown_put HGR.out _ _), HPP.out⟩
            case measure => have := HK2.out; omega
          · obtain ⟨t, ht⟩ : ∃ t : Nat, (i : Int) * 4 + 2 = (t : Int) := ⟨4 * i + 2, by omega⟩
            have ht2 : t = 4 * i + 2 := by omega
            have c1 : wr.cell? ⟨b, o + t, none⟩ = some (.int .u8 x2) := by rw [show t = (4 * i + 2) by omega]; exact HCR.out.2.2.1
            have HA : Hid (bits .or .u32 (x0 + x1 * 256) (x2 * 65536) = part x0 x1 x2 x3 (2 + 1)) := Lib.hid (or_part (a := x0 + x1 * 256) (x := x2) 16 (by omega) (by omega) b2.1 (by omega))
            have HPP : Hid (Blk (wr.setCell ⟨w.heap.size + 1, i, none⟩ (.int .u32 (bits .or .u32 (x0 + x1 * 256) (x2 * 65536)))) (w.heap.size + 1) 24 (cellsAt ns i (part x0 x1 x2 x3 (2 + 1)))) := Lib.hid (by
              rw [HA.out]
              have := Blk.put HBL.out i (.int .u32 (part x0 x1 x2 x3 (2 + 1)))
              rwa [cellsAt_set _ _ HI.out.1] at this)
            have htn : t < 16 := by omega
            have f3 : wr.cell? ⟨w.heap.size + 1, i, none⟩ = some (.int .u32 (x0 + x1 * 256)) := f2
            clear ht2 f2
            go_wp2_with fail
            go_region
            go_wp2_with fail
            go_roundg (4 - (2 + 1))
            case rel => exact ⟨2 + 1, by omega, rfl, by go_num, grown_drew (grown_put HGR.out _ _), HPP.out⟩
            case measure => have := HK2.out; omega
          · obtain ⟨t, ht⟩ : ∃ t : Nat, (i : Int) * 4 + 3 = (t : Int) := ⟨4 * i + 3, by omega⟩
            have ht2 : t = 4 * i + 3 := by omega
            have c1 : wr.cell? ⟨b, o + t, none⟩ = some (.int .u8 x3) := by rw [show t = (4 * i + 3) by omega]; exact HCR.out.2.2.2
            have HA : Hid (bits .or .u32 (x0 + x1 * 256 + x2 * 65536) (x3 * 16777216) = part x0 x1 x2 x3 (3 + 1)) := Lib.hid (or_part (a := x0 + x1 * 256 + x2 * 65536) (x := x3) 24 (by omega) (by omega) b3.1 (by omega))
            have HPP : Hid (Blk (wr.setCell ⟨w.heap.size + 1, i, none⟩ (.int .u32 (bits .or .u32 (x0 + x1 * 256 + x2 * 65536) (x3 * 16777216)))) (w.heap.size + 1) 24 (cellsAt ns i (part x0 x1 x2 x3 (3 + 1)))) := Lib.hid (by
              rw [HA.out]
              have := Blk.put HBL.out i (.int .u32 (part x0 x1 x2 x3 (3 + 1)))
              rwa [cellsAt_set _ _ HI.out.1] at this)
            have htn : t < 16 := by omega
            have f3 : wr.cell? ⟨w.heap.size + 1, i, none⟩ = some (.int .u32 (x0 + x1 * 256 + x2 * 65536)) := f2
            clear ht2 f2
            go_wp2_with fail
            go_region
            go_wp2_with fail
            go_roundg (4 - (3 + 1))
            case rel => exact ⟨3 + 1, by omega, rfl, by go_num, grown_drew (grown_put HGR.out _ _), HPP.out⟩
            case measure => have := HK2.out; omega
        · obtain rfl : j = 4 := by omega
          go_wp2_with fail
          go_roundg (4 - (i + 1))
          case rel => exact ⟨i + 1, by omega, rfl, by go_num, HGR.out, by rw [← HE.out, ← HX2.out]; exact HBL.out⟩
          case measure => have := HK.out; omega
    · obtain rfl : i = 4 := by omega
      rw [HNS.out] at hbl
      have HBL : Hid (Blk wr (w.heap.size + 1) 24 [.int .u32 (bk xs 0), .int .u32 (bk xs 4), .int .u32 (bk xs 8), .int .u32 (bk xs 12)]) := Lib.hid hbl
      have HHR := Lib.hid (HH2.out.kept HGR.out (fun e => by injection e; omega))
      clear hbl
      obtain ⟨n0, e0⟩ : ∃ n, bk xs 0 = n := ⟨_, rfl⟩
      obtain ⟨n1, e1⟩ : ∃ n, bk xs 4 = n := ⟨_, rfl⟩
      obtain ⟨n2, e2⟩ : ∃ n, bk xs 8 = n := ⟨_, rfl⟩
      obtain ⟨n3, e3⟩ : ∃ n, bk xs 12 = n := ⟨_, rfl⟩
      rw [e0, e1, e2, e3] at HBL
      have E0 := Lib.hid e0
      have E1 := Lib.hid e1
      have E2 := Lib.hid e2
      have E3 := Lib.hid e3
      clear e0 e1 e2 e3
      have c0 := HBL.out.cell 0 (by simp)
      have c1 := HBL.out.cell 1 (by simp)
      have c2 := HBL.out.cell 2 (by simp)
      have c3 := HBL.out.cell 3 (by simp)
      have d0 := HHR.out.cell 0 (by simp)
      have d1 := HHR.out.cell 1 (by simp)
      have d2 := HHR.out.cell 2 (by simp)
      have d3 := HHR.out.cell 3 (by simp)
      have f0 := HHR.out.free 0
      have f1 := HHR.out.free 1
      have f2 := HHR.out.free 2
      have f3 := HHR.out.free 3
      go_wp2_with fail
      refine bodyPost_ret (v := .tuple #[.agg #[.int .u32 n0, .int .u32 n1, .int .u32 n2, .int .u32 n3], .nilIface]) (by simp [results, Tryd.results6, go_sem, d0, d1, d2, d3]) rfl ⟨by rw [E0.out, E1.out, E2.out, E3.out], ?_⟩
      exact below_four (HB2.out.grown HGR.out HB2.out.size (fun j hj => by injection hj; omega)) (Nat.le_refl _) _ _ _ _
end Go.Proofs.YtcoaogfebfbemaaDoor
