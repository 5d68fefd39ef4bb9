/-
  Small functions of pages: Right, parts, total, the document's Right, four, back and Same; bytes.Clone.
-/
import Derived.Test.YtnkkifnglkajfaaDoorHeadMath
import Derived.Test.YtnkkifnglkajfaaDoorSumC
import Derived.Test.YtnkkifnglkajfaaDoorMem
namespace Go.Proofs.YtnkkifnglkajfaaDoor
open Go.RowKit

def BoolB (x : Bool) (w : World) (r : Ending) (w' : World) : Prop := r = .returned (.bool x) ∧ Below w.heap.size w w'
def rightK (k : Int) : Bool := decide (1 ≤ k) && decide (k ≤ 5)
theorem ret_bool {a b : Bool} (h : a = b) : Ending.returned (.bool a) = .returned (.bool b) := by rw [h]
theorem hright_is (k s i q : Int) (w : World) : Calls Tryd.prog 13 #[.agg #[.int .u8 k, .int .u32 s, .int .u32 i, .int .u32 q]] w (BoolB (rightK k) w) := by
  have HB := Lib.hid (((Below.refl w.heap.size w).alloc (Nat.le_refl _) (.cells #[.int .u8 k, .int .u32 s, .int .u32 i, .int .u32 q] 24)))
  by_cases h1 : 1 ≤ k
  · have HR : Hid (rightK k = decide (k ≤ 5)) := Lib.hid (by simp [rightK, h1])
    go_enter Tryd.func13, Tryd.ntmps13
    go_wp2_with fail
    go_ret
    exact ⟨by rw [HR.out]; rfl, HB.out⟩
  · have HR : Hid (rightK k = false) := Lib.hid (by simp [rightK, h1])
    go_enter Tryd.func13, Tryd.ntmps13
    go_wp2_with fail
    go_ret
    exact ⟨by rw [HR.out]; rfl, HB.out⟩
theorem rright_is (k s i q : Int) (w : World) : Calls Tryd.prog 14 #[.agg #[.int .u8 k, .int .u32 s, .int .u32 i, .int .u32 q]] w (BoolB (rightK k) w) := by
  have HB := Lib.hid (((Below.refl w.heap.size w).alloc (Nat.le_refl _) (.cells #[.int .u8 k, .int .u32 s, .int .u32 i, .int .u32 q] 34)))
  by_cases h1 : 1 ≤ k
  · have HR : Hid (rightK k = decide (k ≤ 5)) := Lib.hid (by simp [rightK, h1])
    go_enter Tryd.func14, Tryd.ntmps14
    go_wp2_with fail
    go_ret
    exact ⟨by rw [HR.out]; rfl, HB.out⟩
  · have HR : Hid (rightK k = false) := Lib.hid (by simp [rightK, h1])
    go_enter Tryd.func14, Tryd.ntmps14
    go_wp2_with fail
    go_ret
    exact ⟨by rw [HR.out]; rfl, HB.out⟩

/-- Four bytes of a number, in a new block. -/
def fourObj (n : Int) : Obj := .cells #[.int .u8 (n % 256), .int .u8 (n / 256 % 256), .int .u8 (n / 65536 % 256), .int .u8 (n / 16777216 % 256)] 5
def FourIs (n : Int) (w : World) (r : Ending) (w' : World) : Prop := r = .returned (.slice (some ⟨w.heap.size, 0, none⟩) 4 4) ∧ w' = w.alloc (fourObj n)
theorem four_is (n : Int) (w : World) (h0 : 0 ≤ n) (h1 : n ≤ 4294967295) : Calls Tryd.prog 18 #[.int .u32 n] w (FourIs n w) := by
  have H1 : Hid (n / 16777216 % 256 = n / 16777216) := Lib.hid (by omega)
  go_enter Tryd.func18, Tryd.ntmps18
  go_wp2_with fail
  go_ret
  exact ⟨rfl, by unfold fourObj; rw [H1.out]⟩
theorem rd_four (n : Int) (w : World) : Rd (w.alloc (fourObj n)) (w.heap.size + 1) (some ⟨w.heap.size, 0, none⟩) (four n) := by
  intro _
  refine ⟨w.heap.size, 0, rfl, by omega, fun i hi => ?_⟩
  have hi' : i < 4 := hi
  rcases i with _ | _ | _ | _ | i
  all_goals first | omega | simp [four, fourObj]

/-- The document's number of four bytes. -/
theorem rback_is (b o c : Nat) (x0 x1 x2 x3 : Int) (w : World) (h0 : w.cell? ⟨b, o, none⟩ = some (.int .u8 x0)) (h1 : w.cell? ⟨b, o + 1, none⟩ = some (.int .u8 x1)) (h2 : w.cell? ⟨b, o + 2, none⟩ = some (.int .u8 x2)) (h3 : w.cell? ⟨b, o + 3, none⟩ = some (.int .u8 x3))
    (a0 : 0 ≤ x0 ∧ x0 ≤ 255) (a1 : 0 ≤ x1 ∧ x1 ≤ 255) (a2 : 0 ≤ x2 ∧ x2 ≤ 255) (a3 : 0 ≤ x3 ∧ x3 ≤ 255) : Calls Tryd.prog 22 #[.slice (some ⟨b, o, none⟩) 4 c] w (NumB (back4 x0 x1 x2 x3) w) := by
  go_enter Tryd.func22, Tryd.ntmps22
  go_wp2_with fail
  go_region
  go_wp2_with fail
  go_ret
  exact ⟨ret_u32 (by unfold back4; omega), (Below.refl _ _).drew⟩

def PartsOf (b o : Nat) (w : World) (r : Ending) (w' : World) : Prop :=
  r = .returned (.tuple #[.slice (some ⟨b, o, none⟩) 13 13, .slice (some ⟨b, o + 13, none⟩) 4 4, .slice (some ⟨b, o + 17, none⟩) 16 16]) ∧ Below w.heap.size w w'
theorem hparts_is (b o c : Nat) (w : World) (hc : 33 ≤ c) : Calls Tryd.prog 15 #[.slice (some ⟨b, o, none⟩) 33 c] w (PartsOf b o w) := by
  go_enter Tryd.func15, Tryd.ntmps15
  go_wp2_with fail
  go_region
  go_wp2_with fail
  refine bodyPost_ret (v := .tuple #[.slice (some ⟨b, o, none⟩) 13 13, .slice (some ⟨b, o + 13, none⟩) 4 4, .slice (some ⟨b, o + 17, none⟩) 16 16]) (by simp [results, Tryd.results15, go_sem]) rfl ⟨rfl, (Below.refl _ _).drew⟩

theorem of_at {A : Option Addr} {xs : List Int} {n c : Nat} {m : Int} {w : World} (hx : Byt xs) (hr : Rd w w.heap.size A xs) (hl : xs.length = n) (hc : n ≤ c) (hn : n ≤ 20000) (hm : sumN xs = m) :
    Calls Tryd.prog 25 #[.slice A n c] w (NumB m w) := by
  subst hl hm
  exact of_is A xs c w hx hr hc (by omega)
theorem add_at {A : Option Addr} {xs ys : List Int} {n c : Nat} {m k : Int} {w : World} (hy : Byt ys) (hr : Rd w w.heap.size A ys) (hl : ys.length = n) (hc : n ≤ c) (hn : n ≤ 20000) (hm : sumN xs = m) (hk : sumN (xs ++ ys) = k) :
    Calls Tryd.prog 24 #[.int .u32 m, .slice A n c] w (NumB k w) := by
  subst hl hm hk
  obtain ⟨a1, a2⟩ := aL_bd 1 xs
  obtain ⟨a3, a4⟩ := aH_bd 1 0 xs
  have := add_is A ys c (aL 1 xs) (aH 1 0 xs) w hy hr hc (by omega) a1 a2 a3 a4
  rw [sumN_add] at this
  exact this
theorem htotal_is {A A2 : Option Addr} {xs ys : List Int} {n n2 c c2 : Nat} {k : Int} {w : World} (hx : Byt xs) (hy : Byt ys) (hr : Rd w w.heap.size A xs) (hr2 : Rd w w.heap.size A2 ys) (hl : xs.length = n) (hl2 : ys.length = n2) (hc : n ≤ c) (hc2 : n2 ≤ c2) (hn : n ≤ 20000) (hn2 : n2 ≤ 20000)
    (hk : sumN (xs ++ ys) = k) : Calls Tryd.prog 17 #[.slice A n c, .slice A2 n2 c2] w (NumB k w) := by
  have HX := Lib.hid hx
  have HY := Lib.hid hy
  have HR := Lib.hid hr
  have HR2 := Lib.hid hr2
  have HL := Lib.hid hl
  have HL2 := Lib.hid hl2
  have HK := Lib.hid hk
  clear hx hy hr hr2 hl hl2 hk
  go_enter Tryd.func17, Tryd.ntmps17
  go_wp2_with fail
  refine (of_at HX.out HR.out HL.out hc hn rfl).mono ?_
  rintro r w1 ⟨rfl, hb⟩
  have HB := Lib.hid hb
  clear hb
  go_wp2_with fail
  refine (add_at HY.out ((HR2.out.below HB.out).mono HB.out.size) HL2.out hc2 hn2 rfl HK.out).mono ?_
  rintro r w2 ⟨rfl, hb⟩
  have HB2 := Lib.hid (below_all HB.out hb)
  clear hb
  go_wp2_with fail
  go_ret
  exact ⟨rfl, HB2.out⟩

/-- Are bytes the same? -/
theorem same_len {A A2 : Option Addr} {n m c c2 : Nat} {w : World} (h : n ≠ m) : Calls Tryd.prog 11 #[.slice A n c, .slice A2 m c2] w (BoolB false w) := by
  have q : ((n : Int) == (m : Int)) = false := by simp; omega
  go_enter Tryd.func11, Tryd.ntmps11
  go_wp2_with fail
  go_ret
  exact ⟨rfl, Below.refl _ _⟩
theorem same_step {xs ys : List Int} {k : Nat} (h1 : k < xs.length) (h2 : k < ys.length) (h : xs.take k = ys.take k) (he : xs[k] = ys[k]) : xs.take (k + 1) = ys.take (k + 1) := by
  rw [List.take_succ_eq_append_getElem h1, List.take_succ_eq_append_getElem h2, h, he]
theorem same_no {xs ys : List Int} {k : Nat} (h1 : k < xs.length) (h2 : k < ys.length) (he : xs[k] ≠ ys[k]) : decide (xs = ys) = false := by
  simp only [decide_eq_false_iff_not]
  rintro rfl
  exact he rfl
set_option maxHeartbeats 1000000 in
theorem same_eq {A A2 : Option Addr} {xs ys : List Int} {c c2 : Nat} {w : World} (hr : Rd w w.heap.size A xs) (hr2 : Rd w w.heap.size A2 ys) (hl : ys.length = xs.length) (hn : xs.length ≤ 20000) : Calls Tryd.prog 11 #[.slice A xs.length c, .slice A2 xs.length c2] w (BoolB (decide (xs = ys)) w) := by
  have HR := Lib.hid hr
  have HR2 := Lib.hid hr2
  have HL := Lib.hid hl
  clear hr hr2 hl
  go_enter Tryd.func11, Tryd.ntmps11
  go_wp2_with fail
  go_loopg [5] xs.length (fun n i wr => ∃ k : Nat, k ≤ xs.length ∧ n = xs.length - k ∧ i = .int .i64 k ∧ xs.take k = ys.take k ∧ Below w.heap.size w wr)
  case atStart => exact ⟨0, by omega, by omega, rfl, rfl, Below.refl _ _⟩
  case round =>
    obtain ⟨k, hk, hm, rfl, ht, hb⟩ := hrel
    have HB := Lib.hid hb
    have HM := Lib.hid hm
    have HT := Lib.hid ht
    clear hb hm ht
    by_cases hlt : k < xs.length
    · have hlt2 : k < ys.length := by rw [HL.out]; exact hlt
      obtain ⟨b, o, rfl, hbl, hcell⟩ := (HR.out.below HB.out) (by omega)
      obtain ⟨b2, o2, rfl, hbl2, hcell2⟩ := (HR2.out.below HB.out) (by omega)
      have c0 := hcell k hlt
      have c1 := hcell2 k hlt2
      clear hcell hcell2
      by_cases he : xs[k] = ys[k]
      · have HS := Lib.hid (same_step hlt hlt2 HT.out he)
        rw [← he] at c1
        have q : (xs[k] == xs[k]) = true := by simp
        go_wp2_with fail
        go_region
        go_wp2_with fail
        go_roundg (xs.length - (k + 1))
        case rel => exact ⟨k + 1, by omega, rfl, by go_num, HS.out, HB.out.drew⟩
        case measure => have := HM.out; omega
      · have HS := Lib.hid (same_no hlt hlt2 he)
        have q : (xs[k] == ys[k]) = false := by simp [he]
        go_wp2_with fail
        go_region
        go_wp2_with fail
        go_ret
        exact ⟨by rw [HS.out]; rfl, HB.out.drew⟩
    · obtain rfl : k = xs.length := by omega
      have HS : Hid (decide (xs = ys) = true) := Lib.hid (by
        have := HT.out
        rw [List.take_length, ← HL.out, List.take_length] at this
        simpa using this)
      go_wp2_with fail
      go_ret
      exact ⟨by rw [HS.out]; rfl, HB.out⟩
theorem same_is {A A2 : Option Addr} {xs ys : List Int} {n m c c2 : Nat} {w : World} (hr : Rd w w.heap.size A xs) (hr2 : Rd w w.heap.size A2 ys) (hl : xs.length = n) (hl2 : ys.length = m) (hn : n ≤ 20000) : Calls Tryd.prog 11 #[.slice A n c, .slice A2 m c2] w (BoolB (decide (xs = ys)) w) := by
  subst hl hl2
  by_cases h : xs.length = ys.length
  · have := same_eq (c := c) (c2 := c2) hr hr2 h.symm hn
    rwa [h] at this ⊢
  · have e : decide (xs = ys) = false := by
      simp only [decide_eq_false_iff_not]
      rintro rfl
      exact h rfl
    rw [e]
    exact same_len h
end Go.Proofs.YtnkkifnglkajfaaDoor
