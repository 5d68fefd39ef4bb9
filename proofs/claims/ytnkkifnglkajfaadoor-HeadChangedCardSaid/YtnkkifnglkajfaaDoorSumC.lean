/-
  What sum.Add and sum.Of answer.
-/
import Derived.Test.YtnkkifnglkajfaaDoorSumB
namespace Go.Proofs.YtnkkifnglkajfaaDoor
open Go.RowKit

theorem Rd.take {w : World} {B : Nat} {A : Option Addr} {xs : List Int} (h : Rd w B A xs) (k : Nat) : Rd w B A (xs.take k) := by
  intro hn
  simp at hn
  obtain ⟨b, o, hA, hlt, hc⟩ := h (by omega)
  refine ⟨b, o, hA, hlt, fun i hi => ?_⟩
  simp at hi
  rw [List.getElem_take]
  exact hc i (by omega)
theorem Rd.drop {w : World} {B b o : Nat} {xs : List Int} (h : Rd w B (some ⟨b, o, none⟩) xs) (k : Nat) : Rd w B (some ⟨b, o + k, none⟩) (xs.drop k) := by
  intro hn
  simp at hn
  obtain ⟨b', o', hA, hlt, hc⟩ := h (by omega)
  injection hA with hA
  injection hA with e1 e2
  subst e1 e2
  refine ⟨b, o + k, rfl, hlt, fun i hi => ?_⟩
  simp at hi
  rw [List.getElem_drop, Nat.add_assoc]
  exact hc (k + i) (by omega)
theorem Rd.nil {w : World} {B : Nat} {A : Option Addr} : Rd w B A [] := fun h => by simp at h

/-- Behind some of the bytes. -/
def AddAt (l h : Int) (xs : List Int) (w : World) (n : Nat) (b : Value) (wr : World) : Prop :=
  ∃ (A : Option Addr) (c : Nat) (done todo : List Int), xs = done ++ todo ∧ n = todo.length ∧ b = .slice A todo.length c ∧ todo.length ≤ c ∧ Rd wr w.heap.size A todo ∧
    One wr w.heap.size (aL l done) ∧ One wr (w.heap.size + 1) (aH l h done) ∧ Below w.heap.size w wr

theorem two_new (w : World) (l h : Int) : One ((w.alloc (.cells #[.int .u32 l] 22)).alloc (.cells #[.int .u32 h] 22)) w.heap.size l ∧ One ((w.alloc (.cells #[.int .u32 l] 22)).alloc (.cells #[.int .u32 h] 22)) (w.heap.size + 1) h := by
  have n1 : One (w.alloc (.cells #[.int .u32 l] 22)) w.heap.size l := heap_alloc_new w _
  refine ⟨(Below.heap_alloc _ _ _ (by simp)).trans n1, ?_⟩
  have := heap_alloc_new (w.alloc (.cells #[.int .u32 l] 22)) (.cells #[.int .u32 h] 22)
  rw [World.size_alloc] at this
  exact this
theorem two_below (w : World) (l h : Int) : Below w.heap.size w ((w.alloc (.cells #[.int .u32 l] 22)).alloc (.cells #[.int .u32 h] 22)) := ((Below.refl _ _).alloc (Nat.le_refl _) _).alloc (by simp) _

set_option maxHeartbeats 1000000 in
theorem add_is (A : Option Addr) (xs : List Int) (c : Nat) (l h : Int) (w : World) (hx : Byt xs) (hr : Rd w w.heap.size A xs) (hc : xs.length ≤ c) (hn : xs.length ≤ 1000000)
    (l0 : 0 ≤ l) (l1 : l ≤ 65520) (g0 : 0 ≤ h) (g1 : h ≤ 65520) : Calls Tryd.prog 24 #[.int .u32 (wN l h), .slice A xs.length c] w (NumB (addN l h xs) w) := by
  have HX := Lib.hid hx
  have HR := Lib.hid hr
  have HN := Lib.hid (two_new w l h)
  have HB0 := Lib.hid (two_below w l h)
  clear hx hr
  go_enter Tryd.func24, Tryd.ntmps24
  go_wp2_with fail
  refine (parts_is l h _ l0 l1 g0 g1).mono ?_
  rintro r w' ⟨rfl, rfl⟩
  go_wp2_with fail
  go_loopg [1] xs.length (fun n b wr => AddAt l h xs w n b wr)
  case atStart => exact ⟨A, c, [], xs, rfl, rfl, rfl, hc, HR.out.below HB0.out, by rw [aL_nil l0 l1]; exact HN.out.1, by rw [aH_nil g0 g1]; exact HN.out.2, HB0.out⟩
  case round =>
    clear HN HB0
    obtain ⟨A1, c1, done, todo, he, hm, rfl, hc1, hrd, o1, o2, hb⟩ := hrel
    have HE := Lib.hid he
    have HM := Lib.hid hm
    have HRD := Lib.hid hrd
    have HB := Lib.hid hb
    have O1 := Lib.hid o1
    have O2 := Lib.hid o2
    have HBY := Lib.hid (show Byt todo from by have := HX.out.drop done.length; rw [he] at this; simpa using this)
    have hle : todo.length ≤ xs.length := by rw [he]; simp
    clear he hm hrd hb o1 o2
    obtain ⟨a1, a2⟩ := aL_bd l done
    obtain ⟨a3, a4⟩ := aH_bd l h done
    by_cases h0 : 0 < todo.length
    · by_cases h5 : todo.length ≤ 5552
      · go_wp2_with fail
        refine (take_is w.heap.size w.heap.size (w.heap.size + 1) A1 todo _ _ _ wr HBY.out HRD.out h5 (Nat.le_refl _) (by omega) (by omega) O1.out O2.out a1 a2 a3 a4).mono ?_
        rintro r w2 ⟨rfl, o3, o4, hb2⟩
        rw [aL_app] at o3
        rw [aH_app] at o4
        have O3 := Lib.hid o3
        have O4 := Lib.hid o4
        have HB2 := Lib.hid (HB.out.trans hb2)
        clear o3 o4 hb2 O1 O2
        go_wp2_with fail
        all_goals
          go_roundg 0
          case rel => exact ⟨_, _, done ++ todo, [], by simpa using HE.out, rfl, rfl, by simp, Rd.nil, O3.out, O4.out, HB2.out⟩
          case measure => have := HM.out; omega
      · have h6 : 5552 < todo.length := by omega
        obtain ⟨b, o, rfl, hbl, _⟩ := HRD.out h0
        have HLN : Hid ((todo.take 5552).length = 5552) := Lib.hid (by simp; omega)
        have HT := Lib.hid (take_is w.heap.size w.heap.size (w.heap.size + 1) (some ⟨b, o, none⟩) (todo.take 5552) 5552 _ _ wr (HBY.out.take 5552) (HRD.out.take 5552) (by rw [HLN.out]; omega) (Nat.le_refl _) (by omega) (by omega) O1.out O2.out a1 a2 a3 a4)
        rw [HLN.out] at HT
        go_wp2_with fail
        refine HT.out.mono ?_
        rintro r w2 ⟨rfl, o3, o4, hb2⟩
        rw [aL_app] at o3
        rw [aH_app] at o4
        have O3 := Lib.hid o3
        have O4 := Lib.hid o4
        have HB2 := Lib.hid (HB.out.trans hb2)
        have HR2 := Lib.hid ((HRD.out.below hb2).drop 5552)
        clear o3 o4 hb2 O1 O2 HT
        go_wp2_with fail
        go_roundg (todo.drop 5552).length
        case rel => exact ⟨some ⟨b, o + 5552, none⟩, c1 - 5552, done ++ todo.take 5552, todo.drop 5552, by rw [List.append_assoc, List.take_append_drop]; exact HE.out, rfl, by simp, by simp; omega, HR2.out, O3.out, O4.out, HB2.out⟩
        case measure => have := HM.out; simp; omega
    · have HD : Hid (xs = done) := Lib.hid (by
        have := HE.out
        have e : todo = [] := List.eq_nil_of_length_eq_zero (by omega)
        rw [e] at this
        simpa using this)
      have q1 := O1.out.cell
      have q2 := O2.out.cell
      go_wp2_with fail
      refine (whole_is _ _ _ a1 a2 a3 a4).mono ?_
      rintro r w' ⟨rfl, rfl⟩
      go_wp2_with fail
      go_ret
      exact ⟨ret_u32 (by rw [HD.out]; rfl), HB.out⟩

theorem of_is (A : Option Addr) (xs : List Int) (c : Nat) (w : World) (hx : Byt xs) (hr : Rd w w.heap.size A xs) (hc : xs.length ≤ c) (hn : xs.length ≤ 1000000) : Calls Tryd.prog 25 #[.slice A xs.length c] w (NumB (sumN xs) w) := by
  have HX := Lib.hid hx
  have HR := Lib.hid hr
  clear hx hr
  go_enter Tryd.func25, Tryd.ntmps25
  go_wp2_with fail
  refine (add_is A xs c 1 0 w HX.out HR.out hc hn (by omega) (by omega) (by omega) (by omega)).mono ?_
  rintro r w2 ⟨rfl, hb⟩
  have HB := Lib.hid hb
  clear hb
  go_wp2_with fail
  go_ret
  exact ⟨rfl, HB.out⟩
end Go.Proofs.YtnkkifnglkajfaaDoor
