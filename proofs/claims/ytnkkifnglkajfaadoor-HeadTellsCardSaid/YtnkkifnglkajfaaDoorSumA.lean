/-
  What sum.parts, whole and Join answer; the word Rd (a slice that reads as bytes); the document's Of.
-/
import Derived.Test.YtnkkifnglkajfaaDoorChecked
import Derived.Test.YtnkkifnglkajfaaDoorSumMath
import Derived.WalkKit
import Derived.WalkLawsBesides
import Derived.Below
import Derived.Outline
import Derived.Lib.Hide
import Derived.Deep.LoopGhost
import Derived.Laws.BitsAllLaws
import Derived.Laws.Shifts
namespace Go.Proofs.YtnkkifnglkajfaaDoor
open Go.RowKit

theorem and_low {n : Int} (h : 0 ≤ n) (h2 : n ≤ 4294967295) : bits .and .u32 n 65535 = n % 65536 := by
  rw [u32_and n 65535 h (by omega) (by omega) (by omega)]
  have e : n.toNat &&& (65535 : Int).toNat = n.toNat % 65536 := Nat.and_two_pow_sub_one_eq_mod n.toNat 16
  rw [e]
  omega
theorem or_low {l h : Int} (h0 : 0 ≤ l) (h1 : l ≤ 65520) (g0 : 0 ≤ h) (g1 : h ≤ 65520) : bits .or .u32 (h * 65536) l = wN l h := by
  rw [u32_or (h * 65536) l (by omega) (by omega) h0 (by omega)]
  have e : (h * 65536).toNat = 2 ^ 16 * h.toNat := by omega
  rw [e, ← Nat.two_pow_add_eq_or_of_lt (i := 16) (by omega)]
  unfold wN
  omega
theorem ret_u32 {a b : Int} (h : a = b) : Ending.returned (.int .u32 a) = .returned (.int .u32 b) := by rw [h]
theorem ret_u32s {a b c d : Int} (h : a = b) (k : c = d) : Ending.returned (.tuple #[.int .u32 a, .int .u32 c]) = .returned (.tuple #[.int .u32 b, .int .u32 d]) := by rw [h, k]

def PartsIs (l h : Int) (w : World) (r : Ending) (w' : World) : Prop := r = .returned (.tuple #[.int .u32 l, .int .u32 h]) ∧ w = w'
def NumIs (n : Int) (w : World) (r : Ending) (w' : World) : Prop := r = .returned (.int .u32 n) ∧ w = w'
def NumB (n : Int) (w : World) (r : Ending) (w' : World) : Prop := r = .returned (.int .u32 n) ∧ Below w.heap.size w w'
theorem parts_any (n : Int) (w : World) (h : 0 ≤ n) (h2 : n ≤ 4294967295) : Calls Tryd.prog 30 #[.int .u32 n] w (PartsIs (n % 65536) (n / 65536) w) := by
  have HA := Lib.hid (and_low h h2)
  go_enter Tryd.func30, Tryd.ntmps30
  go_wp2
  go_ret2
  exact ⟨ret_u32s HA.out rfl, rfl⟩
theorem parts_is (l h : Int) (w : World) (h0 : 0 ≤ l) (h1 : l ≤ 65520) (g0 : 0 ≤ h) (g1 : h ≤ 65520) : Calls Tryd.prog 30 #[.int .u32 (wN l h)] w (PartsIs l h w) := by
  have hb := wN_bd h0 h1 g0 g1
  have := parts_any (wN l h) w hb.1 (by omega)
  rwa [wN_low h0 h1, wN_high h0 h1] at this
theorem whole_is (l h : Int) (w : World) (h0 : 0 ≤ l) (h1 : l ≤ 65520) (g0 : 0 ≤ h) (g1 : h ≤ 65520) : Calls Tryd.prog 32 #[.int .u32 l, .int .u32 h] w (NumIs (wN l h) w) := by
  have HA := Lib.hid (or_low h0 h1 g0 g1)
  go_enter Tryd.func32, Tryd.ntmps32
  go_wp2
  go_ret
  exact ⟨ret_u32 HA.out, rfl⟩

/-- The slice of A, xs.length, c reads as these bytes, below block B. -/
def Rd (w : World) (B : Nat) (A : Option Addr) (xs : List Int) : Prop :=
  0 < xs.length → ∃ b o : Nat, A = some ⟨b, o, none⟩ ∧ b < B ∧ ∀ i (h : i < xs.length), w.cell? ⟨b, o + i, none⟩ = some (.int .u8 xs[i])
theorem Rd.below {w w' : World} {B : Nat} {A : Option Addr} {xs : List Int} (h : Rd w B A xs) (hb : Below B w w') : Rd w' B A xs := by
  intro hn
  obtain ⟨b, o, hA, hlt, hc⟩ := h hn
  exact ⟨b, o, hA, hlt, fun i hi => (hb.cell (p := ⟨b, o + i, none⟩) hlt).trans (hc i hi)⟩
theorem Rd.mono {w : World} {B B' : Nat} {A : Option Addr} {xs : List Int} (h : Rd w B A xs) (hB : B ≤ B') : Rd w B' A xs := by
  intro hn
  obtain ⟨b, o, hA, hlt, hc⟩ := h hn
  exact ⟨b, o, hA, Nat.lt_of_lt_of_le hlt hB, hc⟩
theorem aL_step (l : Int) (xs : List Int) (k : Nat) (h : k < xs.length) : aL l (xs.take (k + 1)) = (aL l (xs.take k) + xs[k]) % 65521 := by
  rw [List.take_succ_eq_append_getElem h]
  unfold aL
  rw [rL_snoc]
  omega
theorem aH_step (l g : Int) (xs : List Int) (k : Nat) (h : k < xs.length) : aH l g (xs.take (k + 1)) = (aH l g (xs.take k) + aL l (xs.take (k + 1))) % 65521 := by
  rw [List.take_succ_eq_append_getElem h]
  unfold aH aL
  rw [rH_snoc, rL_snoc]
  omega

theorem rof_is (A : Option Addr) (xs : List Int) (c : Nat) (w : World) (hx : Byt xs) (hr : Rd w w.heap.size A xs) (hn : xs.length ≤ 20000) : Calls Tryd.prog 19 #[.slice A xs.length c] w (NumIs (sumN xs) w) := by
  have HX := Lib.hid hx
  have HR := Lib.hid hr
  clear hx hr
  go_enter Tryd.func19, Tryd.ntmps19
  go_wp2_with fail
  go_loop [3, 4, 5] (fun lo hi i => ∃ k : Nat, k ≤ xs.length ∧ i = .int .i64 k ∧ lo = .int .i64 (aL 1 (xs.take k)) ∧ hi = .int .i64 (aH 1 0 (xs.take k))) (fun _ _ i => xs.length - (intOf i).toNat)
  case atStart => exact ⟨0, by omega, rfl, by simp [aL_nil], by simp [aH_nil]⟩
  case round =>
    obtain ⟨k, hk, rfl, rfl, rfl⟩ := hrel
    obtain ⟨a1, a2⟩ := aL_bd 1 (xs.take k)
    obtain ⟨a3, a4⟩ := aH_bd 1 0 (xs.take k)
    by_cases hlt : k < xs.length
    · obtain ⟨b, o, rfl, hbl, hcell⟩ := HR.out (by omega)
      have c0 := hcell k hlt
      obtain ⟨x1, x2⟩ := HX.out.get k hlt
      have HS := Lib.hid (aL_step 1 xs k hlt)
      have HT := Lib.hid (aH_step 1 0 xs k hlt)
      clear hcell
      generalize hxk : xs[k] = x at *
      generalize hla : aL 1 (xs.take k) = la at *
      generalize hha : aH 1 0 (xs.take k) = ha at *
      have H1 := Lib.hid hxk
      have H2 := Lib.hid hla
      have H3 := Lib.hid hha
      clear hxk hla hha
      go_wp2_with fail
      go_round
      case rel => exact ⟨k + 1, by omega, by go_num, by rw [HS.out], by rw [HT.out, HS.out]⟩
      case measure => simp [intOf]; omega
    · obtain rfl : k = xs.length := by omega
      rw [List.take_length] at *
      have HW := Lib.hid (show wN (aL 1 xs) (aH 1 0 xs) = aH 1 0 xs * 65536 + aL 1 xs from rfl)
      generalize hla : aL 1 xs = la at *
      generalize hha : aH 1 0 xs = ha at *
      have H2 := Lib.hid hla
      have H3 := Lib.hid hha
      clear hla hha
      go_wp2_with fail
      go_ret
      exact ⟨ret_u32 (by unfold sumN; rw [H2.out, H3.out, HW.out]), rfl⟩
end Go.Proofs.YtnkkifnglkajfaaDoor
