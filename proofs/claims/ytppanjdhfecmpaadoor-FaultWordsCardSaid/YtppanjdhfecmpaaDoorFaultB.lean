/-
  What fault.Place and fault.Trail answer of an error that is a chain of faults.
-/
import Derived.Test.YtppanjdhfecmpaaDoorFaultA
namespace Go.Proofs.YtppanjdhfecmpaaDoor
open Go.RowKit Go.Extern.Stop Go.Stop Go.Extern

/-- The At of the outermost fault of that Op. -/
def placeOf (op : ByteArray) : List (ByteArray × Int) → Int × Bool
  | [] => (0, false)
  | s :: l => if s.1.toList = op.toList then (s.2, true) else placeOf op l

/-- The pointer that met tells: to the chain's first fault, or none. -/
def Met (w : World) (e : Int) : List (ByteArray × Int) → Value → Prop
  | [], v => v = .pointer none
  | s :: l, v => ∃ (b : Nat) (u : Value), v = .pointer (some ⟨b, 0, none⟩) ∧ b < w.heap.size ∧
      w.cell? ⟨b, 0, none⟩ = some (.string s.1) ∧ w.cell? ⟨b, 1, none⟩ = some (.int .i64 s.2) ∧ w.cell? ⟨b, 2, none⟩ = some u ∧ Err w e l u

theorem met_err {w W : World} {e : Int} {l : List (ByteArray × Int)} {v : Value} (h : Err w e l v) : Calls Tryd.prog 21 #[v] W fun r w' => ∃ p, r = .returned p ∧ W = w' ∧ Met w e l p := by
  cases l with
  | nil =>
    obtain rfl : v = _ := h
    exact (met_errno _ W).mono fun r w' ⟨hr, hw⟩ => ⟨_, hr, hw, rfl⟩
  | cons s l =>
    obtain ⟨b, u, rfl, hlt, h0, h1, h2, hr⟩ := h
    exact (met_fault _ W).mono fun r w' ⟨he, hw⟩ => ⟨_, he, hw, b, u, rfl, hlt, h0, h1, h2, hr⟩

def PlaceIs (w : World) (x : Int × Bool) (r : Ending) (w' : World) : Prop := r = .returned (.tuple #[.int .i64 x.1, .bool x.2]) ∧ w = w'

theorem place_err {w : World} {e : Int} {l : List (ByteArray × Int)} {v : Value} (op : ByteArray) (h : Err w e l v) : Calls Tryd.prog 9 #[v, .string op] w (PlaceIs w (placeOf op l)) := by
  have H := Lib.hid h
  clear h
  go_enter Tryd.func9, Tryd.ntmps9
  go_wp2_with fail
  refine (met_err H.out).mono ?_
  rintro r w' ⟨p, rfl, rfl, hm⟩
  have HM := Lib.hid hm
  clear hm
  go_wp2_with fail
  go_loopg [6] l.length (fun k p wr => w = wr ∧ ∃ l' : List (ByteArray × Int), l'.length = k ∧ placeOf op l' = placeOf op l ∧ Met w e l' p)
  case atStart => exact ⟨rfl, l, rfl, rfl, HM.out⟩
  case round =>
    clear HM H
    obtain ⟨rfl, l', hk, hp, hm⟩ := hrel
    have HP := Lib.hid hp
    have HK := Lib.hid hk
    clear hp hk
    cases l' with
    | nil =>
      obtain rfl : _ = _ := hm
      go_wp2
      go_ret2
      exact ⟨by rw [← HP.out]; rfl, rfl⟩
    | cons s l2 =>
      obtain ⟨b, u, rfl, hlt, h0, h1, h2, hr⟩ := hm
      have HR := Lib.hid hr
      clear hr
      by_cases hs : s.1.toList = op.toList
      · have hs1 : (s.1.toList == op.toList) = true := by simp [hs]
        have HS := Lib.hid hs
        clear hs
        go_wp2
        go_ret2
        exact ⟨by rw [← HP.out]; simp [placeOf, HS.out], rfl⟩
      · have hs1 : (s.1.toList == op.toList) = false := by simp [hs]
        have HS := Lib.hid hs
        clear hs
        go_wp2_with fail
        refine (met_err HR.out).mono ?_
        rintro r w' ⟨p, rfl, rfl, hm⟩
        have HM := Lib.hid hm
        clear hm
        go_wp2_with fail
        go_roundg l2.length
        case rel => exact ⟨rfl, l2, rfl, by rw [← HP.out]; simp [placeOf, HS.out], HM.out⟩
        case measure => have := HK.out; simp at this; omega
end Go.Proofs.YtppanjdhfecmpaaDoor
