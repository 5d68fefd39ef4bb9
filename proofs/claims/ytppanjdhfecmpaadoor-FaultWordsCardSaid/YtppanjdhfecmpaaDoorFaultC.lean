/-
  What fault.Trail answers of an error that is a chain of faults, and of none.
-/
import Derived.Test.YtppanjdhfecmpaaDoorFaultB
import Derived.OwnWalk
import Derived.Deep.AppendLies
namespace Go.Proofs.YtppanjdhfecmpaaDoor
open Go.RowKit Go.Extern.Stop Go.Stop Go.Extern

/-- The slice value v reads as these texts, below block B. -/
def Strs (w : World) (B : Nat) (v : Value) (xs : List ByteArray) : Prop :=
  ∃ (A : Option Addr) (c : Nat), v = .slice A xs.length c ∧ xs.length ≤ c ∧ (0 < xs.length → ∃ b o : Nat, A = some ⟨b, o, none⟩ ∧ b < B ∧ ∀ i (h : i < xs.length), w.cell? ⟨b, o + i, none⟩ = some (.string xs[i]))

theorem Strs.below {w w' : World} {B : Nat} {v : Value} {xs : List ByteArray} (h : Strs w B v xs) (hb : Below B w w') : Strs w' B v xs := by
  obtain ⟨A, c, hv, hc, hr⟩ := h
  refine ⟨A, c, hv, hc, fun hn => ?_⟩
  obtain ⟨b, o, hA, hlt, hcell⟩ := hr hn
  exact ⟨b, o, hA, hlt, fun i hi => (hb.cell (p := ⟨b, o + i, none⟩) hlt).trans (hcell i hi)⟩
theorem Strs.mono {w : World} {B B' : Nat} {v : Value} {xs : List ByteArray} (h : Strs w B v xs) (hB : B ≤ B') : Strs w B' v xs := by
  obtain ⟨A, c, hv, hc, hr⟩ := h
  refine ⟨A, c, hv, hc, fun hn => ?_⟩
  obtain ⟨b, o, hA, hlt, hcell⟩ := hr hn
  exact ⟨b, o, hA, Nat.lt_of_lt_of_le hlt hB, hcell⟩
theorem Strs.of_own {w : World} {base : Nat} {v : Value} {xs : List ByteArray} (h : w.ownsRow base 9 1 v xs.length (xs.map Value.string)) : Strs w w.heap.size v xs := by
  rcases h.2 with ⟨rfl, h0⟩ | ⟨g, cap, cur, rfl, hb, hg, hn, _, _, ht⟩
  · exact ⟨none, 0, by rw [h0], by omega, fun hn => by omega⟩
  · refine ⟨_, cap, rfl, hn, fun hp => ⟨g, 0, rfl, ?_, fun i hi => ?_⟩⟩
    · rcases Nat.lt_or_ge g w.heap.size with hlt | hge
      · exact hlt
      · rw [Array.getElem?_eq_none hge] at hg; cases hg
    · have := h.cells (g := g) rfl i (.string xs[i]) (by simp [hi])
      rcases i with _ | i
      · simpa [Addr.add] using this
      · simpa [Addr.add, Nat.zero_add] using this

def ops (l : List (ByteArray × Int)) : List ByteArray := l.map (·.1)

theorem strInfo : (Tryd.prog.info? 9).map (fun i => (i.zero, i.size, i.bytes)) = some (some (.string ByteArray.empty), 1, 16) := by kernel_rfl

def TrailIs (w : World) (xs : List ByteArray) (r : Ending) (w' : World) : Prop := ∃ v, r = .returned v ∧ Strs w' w'.heap.size v xs ∧ Below w.heap.size w w'

theorem trail_nil (w : World) : Calls Tryd.prog 13 #[.nilIface] w (TrailIs w []) := by
  go_enter Tryd.func13, Tryd.ntmps13
  go_wp2_with fail
  refine (met_nil w).mono ?_
  rintro r w' ⟨rfl, rfl⟩
  go_wp2_with fail
  refine wp_loop_rounds 1 ?_
  rw [rounds_succ]
  go_wp2
  go_ret
  exact ⟨_, rfl, ⟨none, 0, rfl, by simp, fun h => by simp at h⟩, Below.refl _ _⟩
theorem place_nil (op : ByteArray) (w : World) : Calls Tryd.prog 9 #[.nilIface, .string op] w (PlaceIs w (0, false)) := by
  go_enter Tryd.func9, Tryd.ntmps9
  go_wp2_with fail
  refine (met_nil w).mono ?_
  rintro r w' ⟨rfl, rfl⟩
  go_wp2_with fail
  refine wp_loop_rounds 1 ?_
  rw [rounds_succ]
  go_wp2
  go_ret2
  exact ⟨rfl, rfl⟩

theorem own_slice {w : World} {base n : Nat} {e : TypeId} {v : Value} {xs : List Value} (h : w.ownsRow base e 1 v n xs) : ∃ A c, v = .slice A n c := by
  rcases h.2 with ⟨rfl, h0⟩ | ⟨g, cap, cur, rfl, _⟩
  · exact ⟨none, 0, by rw [h0]⟩
  · exact ⟨_, _, rfl⟩

theorem Met.below {w w' : World} {e : Int} (hb : Below w.heap.size w w') {l : List (ByteArray × Int)} {v : Value} (h : Met w e l v) : Met w' e l v := by
  cases l with
  | nil => exact h
  | cons s l =>
    obtain ⟨b, u, hv, hlt, h0, h1, h2, hr⟩ := h
    exact ⟨b, u, hv, Nat.lt_of_lt_of_le hlt hb.size, (hb.cell (p := ⟨b, 0, none⟩) hlt).trans h0, (hb.cell (p := ⟨b, 1, none⟩) hlt).trans h1, (hb.cell (p := ⟨b, 2, none⟩) hlt).trans h2, hr.below hb⟩

theorem one_new (w : World) (v : Value) (t : TypeId) : ∀ j u, [v][j]? = some u → (w.alloc (.cells #[v] t)).cell? ((⟨w.heap.size, 0, none⟩ : Addr).add j) = some u := by
  intro j u h
  have hj : j = 0 := by
    rcases j with _ | j
    · rfl
    · simp at h
  subst hj
  simp at h
  subst h
  simp [Addr.add]

def TrailAt (w : World) (e : Int) (l : List (ByteArray × Int)) (k : Nat) (v p : Value) (wr : World) : Prop :=
  ∃ done todo : List (ByteArray × Int), l = done ++ todo ∧ todo.length = k ∧ wr.ownsRow w.heap.size 9 1 v done.length ((ops done).map Value.string) ∧ Met w e todo p ∧ Below w.heap.size w wr

set_option maxRecDepth 100000 in
theorem trail_err {w : World} {e : Int} {l : List (ByteArray × Int)} {v : Value} (hl : l.length ≤ 1000) (h : Err w e l v) : Calls Tryd.prog 13 #[v] w (TrailIs w (ops l)) := by
  obtain ⟨i0, hi, hz0, hz1, hz2⟩ := info_parts strInfo
  have HI := Lib.hid hi
  have HZ0 := Lib.hid hz0
  have HZ1 := Lib.hid hz1
  have HZ2 := Lib.hid hz2
  clear hi hz0 hz1 hz2
  have H := Lib.hid h
  clear h
  go_enter Tryd.func13, Tryd.ntmps13
  go_wp2_with fail
  refine (met_err H.out).mono ?_
  rintro r w' ⟨p, rfl, rfl, hm⟩
  have HM := Lib.hid hm
  clear hm
  go_wp2_with fail
  go_loopg [3, 4] l.length (fun k v p wr => TrailAt w e l k v p wr)
  case atStart => exact ⟨[], l, rfl, rfl, World.ownsRow_nil _ _ _ _, HM.out, Below.refl _ _⟩
  case round =>
    clear HM H
    obtain ⟨done, todo, hl', hk, hown, hm, hb⟩ := hrel
    have HL := Lib.hid hl'
    have HK := Lib.hid hk
    clear hl' hk
    cases todo with
    | nil =>
      obtain rfl : _ = _ := hm
      have HO := Lib.hid hown
      clear hown
      go_wp2
      go_ret
      have hld : l = done := by have := HL.out; simpa using this
      have ho := HO.out
      refine ⟨_, rfl, ?_, hb⟩
      rw [hld]
      exact Strs.of_own (by simpa [ops] using ho)
    | cons s l2 =>
      obtain ⟨b, u, rfl, hlt, h0, _, h2, hr⟩ := hm
      have HR := Lib.hid hr
      have H2 := Lib.hid h2
      have h0' : wr.cell? ⟨b, 0, none⟩ = some (.string s.1) := (hb.cell (p := ⟨b, 0, none⟩) hlt).trans h0
      clear hr h2 h0
      have hdl : done.length ≤ 1000 := by have := congrArg List.length HL.out; simp at this; omega
      have hsz := hb.size
      have HO := Lib.hid hown
      clear hown
      have HB := Lib.hid hb
      clear hb
      obtain ⟨A0, c0, rfl⟩ := own_slice HO.out
      go_wp2_with (first
        | (at_builtin; refine wpList_append_own _ rfl _ _ 37 rfl w.heap.size 9 i0 (.string ByteArray.empty) 1 16 Tryd.underlying37 HI.out HZ0.out HZ1.out HZ2.out rfl (by decide) _ _ _ rfl (HO.out.alloc _) ⟨wr.heap.size, 0, none⟩ 1 1 [.string s.1] rfl rfl (one_new _ _ _) (fun x hx => by simp at hx; subst hx; rfl) (by unfold maxLen; omega) (by omega) (by simp; omega) ?_; intro v' w3 hown' hgrow3 hnil3; have HB3 := Lib.hid ((HB.out.alloc hsz _).grown hgrow3 (by simp; omega) (fun q hq => (HO.out.lt q hq).1)); clear hgrow3 hnil3; have HO3 := Lib.hid hown'; clear hown'; have h2' : w3.cell? ⟨b, 2, none⟩ = some u := (HB3.out.cell (p := ⟨b, 2, none⟩) hlt).trans H2.out)
        | (go_at_call 21; refine (met_err HR.out).mono ?_; rintro r w' ⟨p1, rfl, rfl, hm1⟩; have HM1 := Lib.hid hm1; clear hm1))
      go_roundg l2.length
      case rel => exact ⟨done ++ [s], l2, by rw [HL.out]; simp, rfl, by simpa [ops] using HO3.out, HM1.out, HB3.out⟩
      case measure => have := HK.out; simp at this; omega
end Go.Proofs.YtppanjdhfecmpaaDoor
