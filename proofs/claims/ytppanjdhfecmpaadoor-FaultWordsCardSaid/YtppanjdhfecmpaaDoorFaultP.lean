/-
  platelayerref01.tens and digits: a number's decimal numeral.
-/
import Derived.Test.YtppanjdhfecmpaaDoorFaultK
import Derived.Lib.ItoaMem
import Derived.Lib.ItoaLen
import Derived.Laws.Concat
import Derived.Laws.IdiomStrings
import Derived.IntWalk
namespace Go.Proofs.YtppanjdhfecmpaaDoor
open Go.RowKit Go.Extern.Stop Go.Stop Go.Extern

def StrIs (w : World) (l : List UInt8) (r : Ending) (w' : World) : Prop := r = .returned (.string ⟨l.toArray⟩) ∧ Below w.heap.size w w'

def dig (u : Nat) : UInt8 := UInt8.ofNat (48 + u % 10)
theorem conv_digit (u : Nat) (w : World) : (convert 60 9 (.slice (some ⟨w.heap.size, 0, none⟩) 1 1)).run Tryd.prog (w.alloc (.cells #[.int .u8 (48 + (u : Int) % 10)] 5)) = .ok (.string ⟨#[dig u]⟩) (w.alloc (.cells #[.int .u8 (48 + (u : Int) % 10)] 5)) := by
  unfold dig
  have hb : (UInt8.ofNat (48 + u % 10)).toNat = 48 + u % 10 := by
    rw [UInt8.toNat_ofNat']
    omega
  have := run_convert_bytes_back (P := Tryd.prog) (w.alloc (.cells #[.int .u8 (48 + (u : Int) % 10)] 5)) 60 9 5 ⟨w.heap.size, 0, none⟩ 1 [UInt8.ofNat (48 + u % 10)] Tryd.underlying60 Tryd.underlying5 Tryd.underlying9 (fun j hj => by
    obtain rfl : j = 0 := by simp at hj; omega
    have e : ((UInt8.ofNat (48 + u % 10)).toNat : Int) = 48 + (u : Int) % 10 := by rw [hb]; omega
    simp only [List.getElem_cons_zero, e]
    simp [Addr.add])
  simpa using this

theorem small_dig {u : Nat} (h : u < 10) : Lib.decDigits u = [dig u] := by
  rw [Lib.decDigits_one h]
  unfold dig
  rw [Nat.mod_eq_of_lt h]
theorem more_dig {u : Nat} (h : ¬ u < 10) : Lib.decDigits u = Lib.decDigits (u / 10) ++ [dig u] := by
  rw [Lib.decDigits, dif_neg h]
  rfl
theorem wrap_tenth {u : Nat} (h : u ≤ 9223372036854775808) : wrap64 (-((u : Int) / 10)) = -((u / 10 : Nat) : Int) := by
  have e : (-((u : Int) / 10)) = -((u / 10 : Nat) : Int) := by omega
  rw [e]
  simp only [wrap64]
  omega

theorem dec_len {u : Nat} (h : u ≤ 9223372036854775808) : (Lib.decDigits u).length ≤ 20 := by
  rw [Lib.decDigits_length]
  exact Lib.nDigits_le20 u (by omega)
/-- Two texts put together, in the walk's own word. -/
theorem add_texts (x y : List UInt8) (h : x.length + y.length ≤ 1000000) (W : World) : (Op.stringOp .add ⟨x.toArray⟩ ⟨y.toArray⟩).run Tryd.prog W = .ok (.string ⟨(x ++ y).toArray⟩) W := by
  exact run_string_add_lists W x y (by omega) (by omega)

set_option maxHeartbeats 1000000 in
set_option maxRecDepth 100000 in
theorem tens_is : ∀ (u : Nat) (w : World), u ≤ 9223372036854775808 → Calls Tryd.prog 36 #[.int .i64 (-(u : Int))] w (StrIs w (Lib.decDigits u)) := by
  intro u
  induction u using Nat.strongRecOn with
  | ind u ih =>
    intro w hu
    have IH := Lib.hid ih
    have HU := Lib.hid hu
    clear ih hu
    have h3 : u % 10 < 10 := Nat.mod_lt _ (by omega)
    have hc := conv_digit u w
    by_cases hlt : u < 10
    · have HD := Lib.hid (small_dig hlt)
      go_enter Tryd.func36, Tryd.ntmps36
      go_wp2
      go_ret
      refine ⟨?_, (Below.refl _ _).alloc (Nat.le_refl _) _⟩
      rw [HD.out]
      rfl
    · have HD := Lib.hid (more_dig hlt)
      go_enter Tryd.func36, Tryd.ntmps36
      go_wp2_with fail
      rw [wrap_tenth HU.out]
      refine (IH.out (u / 10) (by omega) _ (by have := HU.out; omega)).mono ?_
      obtain ⟨dd, hdd⟩ : ∃ dd, dd = Lib.decDigits (u / 10) := ⟨_, rfl⟩
      rw [← hdd]
      have HDD := Lib.hid hdd
      clear hdd
      rintro r w1 ⟨rfl, hb⟩
      have HB := Lib.hid hb
      clear hb
      have hl : dd.length ≤ 20 := by rw [HDD.out]; exact dec_len (by have := HU.out; omega)
      have hadd : ∀ W : World, (Op.stringOp .add ⟨dd.toArray⟩ ⟨#[dig u]⟩).run Tryd.prog W = .ok (.string ⟨(dd ++ [dig u]).toArray⟩) W := fun W => add_texts dd [dig u] (by simp; omega) W
      have HR : Hid ((dd ++ [dig u]) = Lib.decDigits u) := by rw [HDD.out]; exact Lib.hid HD.out.symm
      generalize dd ++ [dig u] = res at *
      go_wp2_with fail
      go_ret
      refine ⟨?_, below_all ((Below.refl _ _).alloc (Nat.le_refl _) _) HB.out⟩
      rw [← HR.out]
      rfl

theorem digits_neg (u : Nat) (w : World) (h0 : 1 ≤ u) (hu : u ≤ 9223372036854775808) : Calls Tryd.prog 27 #[.int .i64 (-(u : Int))] w (StrIs w (Lib.itoa (-(u : Int)))) := by
  rw [Lib.itoa_neg u h0]
  have HU := Lib.hid hu
  clear hu
  have hadd : ∀ W : World, (Op.stringOp .add ⟨#[45]⟩ ⟨(Lib.decDigits u).toArray⟩).run Tryd.prog W = .ok (.string ⟨(45 :: Lib.decDigits u).toArray⟩) W := fun W => add_texts [45] (Lib.decDigits u) (by have := dec_len HU.out; simp; omega) W
  generalize 45 :: Lib.decDigits u = res at *
  go_enter Tryd.func27, Tryd.ntmps27
  go_wp2_with fail
  refine (tens_is u _ HU.out).mono ?_
  rintro r w1 ⟨rfl, hb⟩
  have HB := Lib.hid hb
  clear hb
  go_wp2_with fail
  go_ret
  exact ⟨rfl, HB.out⟩
theorem digits_pos (u : Nat) (w : World) (hu : u ≤ 9223372036854775807) : Calls Tryd.prog 27 #[.int .i64 (u : Int)] w (StrIs w (Lib.itoa (u : Int))) := by
  rw [Lib.itoa_nonneg u]
  have HU := Lib.hid hu
  clear hu
  have hw : wrap64 (-(u : Int)) = -(u : Int) := IntWalk.wrap64_in _ (by have := HU.out; omega)
  have HW := Lib.hid hw
  clear hw
  go_enter Tryd.func27, Tryd.ntmps27
  go_wp2_with fail
  rw [HW.out]
  refine (tens_is u _ (by have := HU.out; omega)).mono ?_
  rintro r w1 ⟨rfl, hb⟩
  have HB := Lib.hid hb
  clear hb
  go_wp2_with fail
  go_ret
  exact ⟨rfl, HB.out⟩
theorem digits_is (n : Int) (w : World) (h0 : -9223372036854775808 ≤ n) (h1 : n ≤ 9223372036854775807) : Calls Tryd.prog 27 #[.int .i64 n] w (StrIs w (Lib.itoa n)) := by
  by_cases h : n < 0
  · obtain ⟨u, rfl⟩ : ∃ u : Nat, n = -(u : Int) := ⟨n.natAbs, by omega⟩
    exact digits_neg u w (by omega) (by omega)
  · obtain ⟨u, rfl⟩ : ∃ u : Nat, n = (u : Int) := ⟨n.toNat, by omega⟩
    exact digits_pos u w (by omega)
end Go.Proofs.YtppanjdhfecmpaaDoor
