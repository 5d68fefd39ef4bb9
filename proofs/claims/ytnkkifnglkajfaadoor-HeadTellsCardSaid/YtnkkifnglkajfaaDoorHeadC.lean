/-
  head.take, out of whatever bytes, into fields of whatever block.
-/
import Derived.Test.YtnkkifnglkajfaaDoorHeadB
namespace Go.Proofs.YtnkkifnglkajfaaDoor
open Go.RowKit

theorem or_part {a x : Int} (k : Nat) (h0 : 0 ≤ a) (ha : a < 2 ^ k) (x0 : 0 ≤ x) (hx : x * 2 ^ k + a < 4294967296) : bits .or .u32 a (x * 2 ^ k) = a + x * 2 ^ k := by
  have hp : (0 : Int) < 2 ^ k := Int.pow_pos (by omega)
  have hm : 0 ≤ x * 2 ^ k := Int.mul_nonneg x0 (by omega)
  rw [u32_or a (x * 2 ^ k) h0 (by omega) hm (by omega)]
  have e1 : (x * 2 ^ k).toNat = 2 ^ k * x.toNat := by
    obtain ⟨y, rfl⟩ := Int.eq_ofNat_of_zero_le x0
    rw [show ((y : Int) * 2 ^ k) = ((y * 2 ^ k : Nat) : Int) by simp, Int.toNat_natCast, Int.toNat_natCast, Nat.mul_comm]
  have e2 : a.toNat < 2 ^ k := by
    have : ((2 ^ k : Nat) : Int) = (2 : Int) ^ k := by simp
    omega
  rw [e1, Nat.or_comm, ← Nat.two_pow_add_eq_or_of_lt e2, ← e1]
  omega

/-- The first j of a number's bytes. -/
def part (x0 x1 x2 x3 : Int) : Nat → Int
  | 0 => 0
  | 1 => x0
  | 2 => x0 + x1 * 256
  | 3 => x0 + x1 * 256 + x2 * 65536
  | _ => x0 + x1 * 256 + x2 * 65536 + x3 * 16777216

/-- The bytes at o of block b are those of the number n. -/
def Four (w : World) (b o : Nat) (n : Int) : Prop := ∃ x0 x1 x2 x3 : Int, n = back4 x0 x1 x2 x3 ∧ (0 ≤ x0 ∧ x0 ≤ 255) ∧ (0 ≤ x1 ∧ x1 ≤ 255) ∧ (0 ≤ x2 ∧ x2 ≤ 255) ∧ (0 ≤ x3 ∧ x3 ≤ 255) ∧
  w.cell? ⟨b, o, none⟩ = some (.int .u8 x0) ∧ w.cell? ⟨b, o + 1, none⟩ = some (.int .u8 x1) ∧ w.cell? ⟨b, o + 2, none⟩ = some (.int .u8 x2) ∧ w.cell? ⟨b, o + 3, none⟩ = some (.int .u8 x3)
def u32s (ns : List Int) : List Value := ns.map (Value.int .u32)
theorem u32s_len (ns : List Int) : (u32s ns).length = ns.length := by simp [u32s]
theorem take_step {cs : List Value} {ns : List Int} {f i : Nat} (hi : i < ns.length) (h : f + ns.length ≤ cs.length) : (putB cs f (u32s (ns.take i))).set (f + i) (.int .u32 ns[i]) = putB cs f (u32s (ns.take (i + 1))) := by
  have e : (u32s (ns.take i)).length = i := by rw [u32s_len]; simp; omega
  have := putB_snoc (xs := cs) (ys := u32s (ns.take i)) (o := f) (.int .u32 ns[i]) (by omega)
  rw [e] at this
  rw [this, List.take_succ_eq_append_getElem hi]
  unfold u32s
  rw [List.map_append]
  rfl
theorem set_twice (cs : List Value) (k : Nat) (u v : Value) : (cs.set k u).set k v = cs.set k v := by simp

def TakeD (p f : Nat) (T : TypeId) (cs : List Value) (ns : List Int) (w : World) (r : Ending) (w' : World) : Prop := r = .returned (.tuple #[]) ∧ w.grownBy w' (some p) ∧ Blk w' p T (putB cs f (u32s ns))
set_option maxHeartbeats 4000000 in
theorem htake_is (b o n c vb c2 p f : Nat) (T : TypeId) (cs : List Value) (ns : List Int) (w : World) (hp : Blk w p T cs) (hf : f + ns.length ≤ cs.length) (hbp : b ≠ p) (hvp : vb ≠ p) (hn : 4 * ns.length ≤ n)
    (hv : ∀ j, j < ns.length → w.cell? ⟨vb, j, none⟩ = some (.pointer (some ⟨p, f + j, none⟩))) (h4 : ∀ j (h : j < ns.length), Four w b (o + 4 * j) ns[j]) (hm : ns.length ≤ 1000) (hnc : n ≤ 100000) (_hns : ns ≠ []) :
    Calls Tryd.prog 20 #[.slice (some ⟨b, o, none⟩) n c, .slice (some ⟨vb, 0, none⟩) ns.length c2] w (TakeD p f T cs ns w) := by
  have HP := Lib.hid hp
  have HV := Lib.hid hv
  have H4 := Lib.hid h4
  have HBP := Lib.hid hbp
  have HVP := Lib.hid hvp
  clear hp hv h4 hbp hvp
  go_enter Tryd.func20, Tryd.ntmps20
  go_wp2_with fail
  go_loopg [9] ns.length (fun k x wr => ∃ i : Nat, i ≤ ns.length ∧ k = ns.length - i ∧ x = .int .i64 i ∧ w.grownBy wr (some p) ∧ Blk wr p T (putB cs f (u32s (ns.take i))))
  case atStart => exact ⟨0, by omega, by omega, rfl, World.grownBy.refl _ _, by rw [List.take_zero]; show Blk w p T (putB cs f []); rw [putB_nil]; exact HP.out⟩
  case round =>
    obtain ⟨i, hi, hk, rfl, hgr, hbl⟩ := hrel
    have HK := Lib.hid hk
    have HGR := Lib.hid hgr
    have HBL := Lib.hid hbl
    clear hk hgr hbl
    by_cases hlt : i < ns.length
    · have c0 : wr.cell? ⟨vb, i, none⟩ = some (.pointer (some ⟨p, f + i, none⟩)) := HGR.out.cell (HV.out i hlt) (fun e => HVP.out (Option.some.inj e))
      have hlen : (putB cs f (u32s (ns.take i))).length = cs.length := putB_len (by rw [u32s_len]; simp; omega)
      have f1 := Blk.free HBL.out (f + i)
      obtain ⟨old, f2⟩ : ∃ old, wr.cell? ⟨p, f + i, none⟩ = some old := ⟨_, Blk.cell HBL.out (f + i) (by omega)⟩
      have HST := Lib.hid (take_step (cs := cs) (f := f) hlt hf)
      have HF := Lib.hid (H4.out i hlt)
      generalize ns[i] = x at *
      have HP0 : Hid (Blk (wr.setCell ⟨p, f + i, none⟩ (.int .u32 0)) p T ((putB cs f (u32s (ns.take i))).set (f + i) (.int .u32 0))) := Lib.hid (Blk.put HBL.out (f + i) _)
      have HG0 := Lib.hid (grown_put HGR.out (f + i) (.int .u32 0))
      have HL := Lib.hid hlen
      clear hlen
      go_wp2_with fail
      obtain ⟨wo, hwo⟩ : ∃ wo : World, wo = wr.setCell ⟨p, f + i, none⟩ (.int .u32 0) := ⟨_, rfl⟩
      rw [← hwo] at HP0 HG0 ⊢
      clear c0 f1 f2 HBL HGR hwo
      obtain ⟨x0, x1, x2, x3, hx, b0, b1, b2, b3, g0, g1, g2, g3⟩ := HF.out
      have HX := Lib.hid hx
      have HC := Lib.hid (And.intro g0 (And.intro g1 (And.intro g2 g3)))
      clear hx g0 g1 g2 g3 HF
      go_loopg [16] 4 (fun k y wr => ∃ j : Nat, j ≤ 4 ∧ k = 4 - j ∧ y = .int .i64 j ∧ w.grownBy wr (some p) ∧ Blk wr p T ((putB cs f (u32s (ns.take i))).set (f + i) (.int .u32 (part x0 x1 x2 x3 j))))
      case atStart => exact ⟨0, by omega, by omega, rfl, HG0.out, HP0.out⟩
      case round =>
        clear HP0 HG0
        obtain ⟨j, hj, hk, rfl, hgr, hbl⟩ := hrel
        have HK2 := Lib.hid hk
        have HGR := Lib.hid hgr
        have HBL := Lib.hid hbl
        clear hk hgr hbl
        by_cases hlt2 : j < 4
        · have f1 := Blk.free HBL.out (f + i)
          have f2 := Blk.cell HBL.out (f + i) (by rw [List.length_set, HL.out]; omega)
          rw [List.getElem_set_self] at f2
          have hj4 : j = 0 ∨ j = 1 ∨ j = 2 ∨ j = 3 := by omega
          clear hj hlt2
          rcases hj4 with rfl | rfl | rfl | rfl
          · obtain ⟨t, ht⟩ : ∃ t : Nat, (i : Int) * 4 = (t : Int) := ⟨4 * i + 0, by omega⟩
            have ht2 : o + t = o + 4 * i := by omega
            have c1 : wr.cell? ⟨b, o + t, none⟩ = some (.int .u8 x0) := by rw [ht2]; exact HGR.out.cell HC.out.1 (fun e => HBP.out (Option.some.inj e))
            have HA : Hid (bits .or .u32 (0) (x0) = part x0 x1 x2 x3 (0 + 1)) := Lib.hid (by have := or_part (a := 0) (x := x0) 0 (by omega) (by omega) b0.1 (by omega); simpa [part] using this)
            have HPP : Hid (Blk (wr.setCell ⟨p, f + i, none⟩ (.int .u32 (bits .or .u32 (0) (x0)))) p T ((putB cs f (u32s (ns.take i))).set (f + i) (.int .u32 (part x0 x1 x2 x3 (0 + 1))))) := Lib.hid (by
              rw [HA.out]
              have := Blk.put HBL.out (f + i) (.int .u32 (part x0 x1 x2 x3 (0 + 1)))
              rwa [set_twice] at this)
            have htn : t < n := by omega
            have f3 : wr.cell? ⟨p, f + i, none⟩ = some (.int .u32 (0)) := f2
            clear ht2 f2
            go_wp2_with fail
            go_region
            go_wp2_with fail
            go_roundg (4 - (0 + 1))
            case rel => exact ⟨0 + 1, by omega, rfl, by go_num, grown_drew (grown_put HGR.out _ _), HPP.out⟩
            case measure => have := HK2.out; omega
          · obtain ⟨t, ht⟩ : ∃ t : Nat, (i : Int) * 4 + 1 = (t : Int) := ⟨4 * i + 1, by omega⟩
            have ht2 : o + t = o + 4 * i + 1 := by omega
            have c1 : wr.cell? ⟨b, o + t, none⟩ = some (.int .u8 x1) := by rw [ht2]; exact HGR.out.cell HC.out.2.1 (fun e => HBP.out (Option.some.inj e))
            have HA : Hid (bits .or .u32 (x0) (x1 * 256) = part x0 x1 x2 x3 (1 + 1)) := Lib.hid (or_part (a := x0) (x := x1) 8 (by omega) (by omega) b1.1 (by omega))
            have HPP : Hid (Blk (wr.setCell ⟨p, f + i, none⟩ (.int .u32 (bits .or .u32 (x0) (x1 * 256)))) p T ((putB cs f (u32s (ns.take i))).set (f + i) (.int .u32 (part x0 x1 x2 x3 (1 + 1))))) := Lib.hid (by
              rw [HA.out]
              have := Blk.put HBL.out (f + i) (.int .u32 (part x0 x1 x2 x3 (1 + 1)))
              rwa [set_twice] at this)
            have htn : t < n := by omega
            have f3 : wr.cell? ⟨p, f + i, none⟩ = some (.int .u32 (x0)) := f2
            clear ht2 f2
            go_wp2_with fail
            go_region
            go_wp2_with fail
            go_roundg (4 - (1 + 1))
            case rel => exact ⟨1 + 1, by omega, rfl, by go_num, grown_drew (grown_put HGR.out _ _), HPP.out⟩
            case measure => have := HK2.out; omega
          · obtain ⟨t, ht⟩ : ∃ t : Nat, (i : Int) * 4 + 2 = (t : Int) := ⟨4 * i + 2, by omega⟩
            have ht2 : o + t = o + 4 * i + 2 := by omega
            have c1 : wr.cell? ⟨b, o + t, none⟩ = some (.int .u8 x2) := by rw [ht2]; exact HGR.out.cell HC.out.2.2.1 (fun e => HBP.out (Option.some.inj e))
            have HA : Hid (bits .or .u32 (x0 + x1 * 256) (x2 * 65536) = part x0 x1 x2 x3 (2 + 1)) := Lib.hid (or_part (a := x0 + x1 * 256) (x := x2) 16 (by omega) (by omega) b2.1 (by omega))
            have HPP : Hid (Blk (wr.setCell ⟨p, f + i, none⟩ (.int .u32 (bits .or .u32 (x0 + x1 * 256) (x2 * 65536)))) p T ((putB cs f (u32s (ns.take i))).set (f + i) (.int .u32 (part x0 x1 x2 x3 (2 + 1))))) := Lib.hid (by
              rw [HA.out]
              have := Blk.put HBL.out (f + i) (.int .u32 (part x0 x1 x2 x3 (2 + 1)))
              rwa [set_twice] at this)
            have htn : t < n := by omega
            have f3 : wr.cell? ⟨p, f + i, none⟩ = some (.int .u32 (x0 + x1 * 256)) := f2
            clear ht2 f2
            go_wp2_with fail
            go_region
            go_wp2_with fail
            go_roundg (4 - (2 + 1))
            case rel => exact ⟨2 + 1, by omega, rfl, by go_num, grown_drew (grown_put HGR.out _ _), HPP.out⟩
            case measure => have := HK2.out; omega
          · obtain ⟨t, ht⟩ : ∃ t : Nat, (i : Int) * 4 + 3 = (t : Int) := ⟨4 * i + 3, by omega⟩
            have ht2 : o + t = o + 4 * i + 3 := by omega
            have c1 : wr.cell? ⟨b, o + t, none⟩ = some (.int .u8 x3) := by rw [ht2]; exact HGR.out.cell HC.out.2.2.2 (fun e => HBP.out (Option.some.inj e))
            have HA : Hid (bits .or .u32 (x0 + x1 * 256 + x2 * 65536) (x3 * 16777216) = part x0 x1 x2 x3 (3 + 1)) := Lib.hid (or_part (a := x0 + x1 * 256 + x2 * 65536) (x := x3) 24 (by omega) (by omega) b3.1 (by omega))
            have HPP : Hid (Blk (wr.setCell ⟨p, f + i, none⟩ (.int .u32 (bits .or .u32 (x0 + x1 * 256 + x2 * 65536) (x3 * 16777216)))) p T ((putB cs f (u32s (ns.take i))).set (f + i) (.int .u32 (part x0 x1 x2 x3 (3 + 1))))) := Lib.hid (by
              rw [HA.out]
              have := Blk.put HBL.out (f + i) (.int .u32 (part x0 x1 x2 x3 (3 + 1)))
              rwa [set_twice] at this)
            have htn : t < n := by omega
            have f3 : wr.cell? ⟨p, f + i, none⟩ = some (.int .u32 (x0 + x1 * 256 + x2 * 65536)) := f2
            clear ht2 f2
            go_wp2_with fail
            go_region
            go_wp2_with fail
            go_roundg (4 - (3 + 1))
            case rel => exact ⟨3 + 1, by omega, rfl, by go_num, grown_drew (grown_put HGR.out _ _), HPP.out⟩
            case measure => have := HK2.out; omega
        · obtain rfl : j = 4 := by omega
          go_wp2_with fail
          go_roundg (ns.length - (i + 1))
          case rel => exact ⟨i + 1, by omega, rfl, by go_num, HGR.out, by
            rw [← HST.out, HX.out]
            have e : back4 x0 x1 x2 x3 = part x0 x1 x2 x3 4 := by unfold back4; show _ = x0 + x1 * 256 + x2 * 65536 + x3 * 16777216; omega
            rw [e]
            exact HBL.out⟩
          case measure => have := HK.out; omega
    · obtain rfl : i = ns.length := by omega
      go_wp2_with fail
      go_end0
      refine ⟨rfl, HGR.out, ?_⟩
      have := HBL.out
      rwa [List.take_length] at this
end Go.Proofs.YtnkkifnglkajfaaDoor
