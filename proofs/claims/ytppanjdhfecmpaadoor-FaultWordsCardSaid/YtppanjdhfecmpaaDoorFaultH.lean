/-
  platelayerlaw01.awake answers true.
-/
import Derived.Test.YtppanjdhfecmpaaDoorFaultF
import Derived.Test.YtppanjdhfecmpaaDoorFaultG
namespace Go.Proofs.YtppanjdhfecmpaaDoor
open Go.RowKit Go.Extern.Stop Go.Stop Go.Extern

def TrueB (w : World) (r : Ending) (w' : World) : Prop := r = .returned (.bool true) ∧ Below w.heap.size w w'

theorem below_drewN {B : Nat} {a w : World} (h : Below B a w) (n : Nat) : Below B a (w.drewN n) := ⟨h.os, h.tape, h.output, h.size, h.block⟩
theorem below_all {a b c : World} (h : Below a.heap.size a b) (k : Below b.heap.size b c) : Below a.heap.size a c := h.trans (k.mono h.size)

/-- A fault that is made of an error is one wrapping more. -/
theorem Err.wrapped {w : World} {e : Int} {l : List (ByteArray × Int)} {v : Value} (h : Err w e l v) (op : ByteArray) (n : Int) :
    Err (w.alloc (.cells #[.string op, .int .i64 n, v] 48)) e ((op, n) :: l) (.iface 46 (.pointer (some ⟨w.heap.size, 0, none⟩))) :=
  ⟨w.heap.size, v, rfl, by simp, by simp, by simp, by simp, h.below ((Below.refl _ _).alloc (Nat.le_refl _) _)⟩

abbrev bRead : ByteArray := ⟨#[114, 101, 97, 100]⟩
abbrev bPage : ByteArray := ⟨#[112, 97, 103, 101]⟩

set_option maxHeartbeats 1000000 in
theorem awake_true {w : World} (hg : Gl w) : Calls Tryd.prog 7 #[] w (TrueB w) := by
  have HG := Lib.hid hg
  clear hg
  go_enter Tryd.func7, Tryd.ntmps7
  go_wp2_with fail
  refine (wrap_errno _ _ _ _ (by decide)).mono ?_
  rintro r w1 ⟨rfl, rfl⟩
  go_wp2_with fail
  refine (wrap_fault _ _ _ _).mono ?_
  rintro r w2 ⟨rfl, hw2⟩
  have HE : Hid (Err w2 6 [(bRead, 3), (bPage, 7)] (.iface 46 (.pointer (some ⟨w.heap.size + 1, 0, none⟩)))) := by
    rw [hw2]
    have h1 : Err w 6 [] (.iface 22 (.int .i64 6)) := rfl
    have h3 := (h1.wrapped bPage 7).wrapped bRead 3
    rw [World.size_alloc] at h3
    exact h3
  have HB2 : Hid (Below w.heap.size w w2) := by
    rw [hw2]
    exact ((Below.refl _ _).alloc (Nat.le_refl _) _).alloc (by simp) _
  clear hw2
  go_wp2_with fail
  refine (place_err bPage HE.out).mono ?_
  rintro r w3 ⟨rfl, rfl⟩
  have hpl : placeOf bPage [(bRead, 3), (bPage, 7)] = (7, true) := by simp [placeOf, bRead, bPage]
  rw [hpl]
  clear hpl
  go_wp2_with fail
  refine (code_err (HG.out.below HB2.out) HE.out).mono ?_
  rintro r w4 ⟨rfl, hb4⟩
  have HB4 := Lib.hid (below_all HB2.out hb4)
  have HE4 := Lib.hid (HE.out.below hb4)
  clear hb4
  go_wp2_with fail
  refine (trail_err (by simp) HE4.out).mono ?_
  rintro r w5 ⟨vt, rfl, ht5, hb5⟩
  have HT5 := Lib.hid ht5
  have HB5 := Lib.hid (below_all HB4.out hb5)
  have HE5 := Lib.hid (HE4.out.below hb5)
  clear hb5 ht5
  go_wp2_with fail
  have HB6 := Lib.hid (HB5.out.alloc HB5.out.size (.cells #[.string bRead, .string bPage] 9))
  have hb56 := (Below.refl w5.heap.size w5).alloc (Nat.le_refl _) (.cells #[.string bRead, .string bPage] 9)
  have HE6 := Lib.hid (HE5.out.below hb56)
  have HS1 : Hid (Strs (w5.alloc (.cells #[.string bRead, .string bPage] 9)) w5.heap.size vt [bRead, bPage]) := Lib.hid (HT5.out.below hb56)
  have HS2 : Hid (Strs (w5.alloc (.cells #[.string bRead, .string bPage] 9)) (w5.heap.size + 1) (.slice (some ⟨w5.heap.size, 0, none⟩) 2 2) [bRead, bPage]) := by
    refine Lib.hid ⟨_, 2, rfl, by simp, fun _ => ⟨w5.heap.size, 0, rfl, by omega, fun i hi => ?_⟩⟩
    rcases i with _ | _ | i
    · simp
    · simp
    · simp at hi; omega
  clear hb56
  refine (same_strs (by simp) HS1.out HS2.out).mono ?_
  rintro r w6 ⟨rfl, n6, rfl⟩
  have HB7 := Lib.hid (below_drewN HB6.out n6)
  have HE7 : Hid (Err ((w5.alloc (.cells #[.string bRead, .string bPage] 9)).drewN n6) 6 [(bRead, 3), (bPage, 7)] (.iface 46 (.pointer (some ⟨w.heap.size + 1, 0, none⟩)))) := Lib.hid (HE6.out.below (below_drewN (Below.refl _ _) n6))
  go_wp2_with fail
  refine (fIs_err 6 HE7.out).mono ?_
  rintro r w8 ⟨rfl, rfl⟩
  go_wp2_with fail
  refine (fIs_err 1 HE7.out).mono ?_
  rintro r w8 ⟨rfl, rfl⟩
  go_wp2_with fail
  refine (wrap_nil _ _ _).mono ?_
  rintro r w8 ⟨rfl, rfl⟩
  go_wp2_with fail
  refine (code_nil _).mono ?_
  rintro r w8 ⟨rfl, hb8⟩
  have HB8 := Lib.hid (below_all HB7.out hb8)
  clear hb8
  go_wp2_with fail
  go_ret
  exact ⟨rfl, HB8.out⟩
end Go.Proofs.YtppanjdhfecmpaaDoor
