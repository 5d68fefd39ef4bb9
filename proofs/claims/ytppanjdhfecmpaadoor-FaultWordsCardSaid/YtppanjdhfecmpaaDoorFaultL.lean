/-
  platelayerlaw01.made at the code OK: nothing is made.
-/
import Derived.Test.YtppanjdhfecmpaaDoorFaultK
namespace Go.Proofs.YtppanjdhfecmpaaDoor
open Go.RowKit Go.Extern.Stop Go.Stop Go.Extern

def MadeNil (w : World) (r : Ending) (w' : World) : Prop := r = .returned (.tuple #[.nilIface, .agg #[.slice none 0 0, .int .i64 0]]) ∧ Below w.heap.size w w'
def NilAt (w : World) (n : Nat) (k : Nat) (err i : Value) (wr : World) : Prop :=
  ∃ j : Nat, j ≤ n ∧ k = n - j ∧ i = .int .i64 j ∧ err = .nilIface ∧
    Rf wr w.heap.size (.slice none 0 0) (.int .i64 0) ∧ Rf wr (w.heap.size + 1) (.slice none 0 0) (.int .i64 0) ∧ Below w.heap.size w wr

theorem nil_step {w w3 : World} {n j : Nat} (hj : j < n) (hR : Rf w3 w.heap.size (.slice none 0 0) (.int .i64 0)) (hF : Rf w3 (w.heap.size + 1) (.slice none 0 0) (.int .i64 0)) (hb : Below w.heap.size w w3) :
    NilAt w n (n - (j + 1)) .nilIface (.int .i64 ((j + 1 : Nat) : Int)) ((w3.setCell ⟨w.heap.size + 1, 0, none⟩ (.slice none 0 0)).setCell ⟨w.heap.size + 1, 1, none⟩ (.int .i64 0)) :=
  ⟨j + 1, by omega, rfl, rfl, rfl, (hR.far (p := ⟨w.heap.size + 1, 0, none⟩) (by simp) _).far (p := ⟨w.heap.size + 1, 1, none⟩) (by simp) _, (hF.set0 _).set1 _, (hb.setCell (by simp) _).setCell (by simp) _⟩

set_option maxHeartbeats 1000000 in
theorem made_ok {w : World} (A : Option Addr) (l : List (ByteArray × Int)) (c : Nat) (hl : l.length ≤ 100) (hs : Steps w w.heap.size A l) :
    Calls Tryd.prog 8 #[.int .i64 0, .slice A l.length c] w (MadeNil w) := by
  have HS := Lib.hid hs
  clear hs
  go_enter Tryd.func8, Tryd.ntmps8
  go_wp2_with fail
  go_loopg [6, 18] l.length (fun k err i wr => NilAt w l.length k err i wr)
  case atStart =>
    refine ⟨0, by omega, by omega, rfl, rfl, (Rf.new _ _ _).alloc _, ?_, ((Below.refl _ _).alloc (Nat.le_refl _) _).alloc (by simp) _⟩
    have := Rf.new (w.alloc (.cells #[.slice none 0 0, .int .i64 0] 29)) (.slice none 0 0) (.int .i64 0)
    rw [World.size_alloc] at this
    exact this
  case round =>
    obtain ⟨j, hj, hk, rfl, rfl, hR, hF, hb⟩ := hrel
    have HK := Lib.hid hk
    have HB := Lib.hid hb
    have HR := Lib.hid hR
    have HF := Lib.hid hF
    have hsz := hb.size
    have hFl := hF.lt
    clear hk hb hR hF
    by_cases hlt : j < l.length
    · obtain ⟨b, o, rfl, hbl, hcell⟩ := (HS.out.below HB.out) (by omega)
      obtain ⟨g1, g2⟩ := hcell j hlt
      clear hcell
      generalize hs : l[j] = st at *
      obtain ⟨op, at_⟩ := st
      clear hs
      dsimp only at g1 g2
      have hbA : Below wr.heap.size wr (wr.alloc (.cells #[.string op, .int .i64 at_] 44)) := (Below.refl _ _).alloc (Nat.le_refl _) _
      have hFA := HF.out.alloc (.cells #[.string op, .int .i64 at_] 44)
      have f0 : (wr.alloc (.cells #[.string op, .int .i64 at_] 44)).cell? ⟨w.heap.size + 1, 0, none⟩ = some (.slice none 0 0) := hFA.cell 0
      have f1 : (wr.alloc (.cells #[.string op, .int .i64 at_] 44)).cell? ⟨w.heap.size + 1, 1, none⟩ = some (.int .i64 0) := hFA.cell 1
      have HFA := Lib.hid hFA
      have HBA := Lib.hid hbA
      clear hbA hFA
      go_wp2_with fail
      refine (wrap_nil op at_ _).mono ?_
      rintro r w2 ⟨rfl, rfl⟩
      go_wp2_with fail
      refine (rwrap_ok op at_ _ _).mono ?_
      rintro r w3 ⟨A3, c3, rfl, h3, _, hb3⟩
      obtain ⟨rfl, rfl⟩ := h3 rfl
      have hF3 := HFA.out.below hb3 HFA.out.lt
      have k0 : w3.cell? ⟨w.heap.size + 1, 0, none⟩ = some (.slice none 0 0) := hF3.cell 0
      have k1 : w3.cell? ⟨w.heap.size + 1, 1, none⟩ = some (.int .i64 0) := hF3.cell 1
      have k2 := hF3.frozen 0
      have k3 := hF3.frozen 1
      have HW := Lib.hid (nil_step hlt ((HR.out.alloc _).below hb3 (by simp; omega)) hF3 (below_all HB.out (below_all HBA.out hb3)))
      clear h3 hF3 hb3
      go_wp2_with fail
      go_roundg (l.length - (j + 1))
      case rel => simpa using HW.out
      case measure => rw [HK.out]; omega
    · obtain rfl : j = l.length := by omega
      have k0 : wr.cell? ⟨w.heap.size + 1, 0, none⟩ = some (.slice none 0 0) := HF.out.cell 0
      have k1 : wr.cell? ⟨w.heap.size + 1, 1, none⟩ = some (.int .i64 0) := HF.out.cell 1
      have r0 : wr.cell? ⟨w.heap.size, 0, none⟩ = some (.slice none 0 0) := HR.out.cell 0
      have r1 : wr.cell? ⟨w.heap.size, 1, none⟩ = some (.int .i64 0) := HR.out.cell 1
      have r2 := HR.out.frozen 0
      have r3 := HR.out.frozen 1
      go_wp2_with fail
      go_region
      have HX := Lib.hid ((HR.out.set0 (.slice none 0 0)).set1 (.int .i64 0))
      have x0 : ((wr.setCell ⟨w.heap.size, 0, none⟩ (.slice none 0 0)).setCell ⟨w.heap.size, 1, none⟩ (.int .i64 0)).cell? ⟨w.heap.size, 0, none⟩ = some (.slice none 0 0) := HX.out.cell 0
      have x1 : ((wr.setCell ⟨w.heap.size, 0, none⟩ (.slice none 0 0)).setCell ⟨w.heap.size, 1, none⟩ (.int .i64 0)).cell? ⟨w.heap.size, 1, none⟩ = some (.int .i64 0) := HX.out.cell 1
      go_wp2
      exact bodyPost_ret (v := .tuple #[.nilIface, .agg #[.slice none 0 0, .int .i64 0]]) (by simp [results, Tryd.results8, go_sem, x0, x1]) rfl ⟨rfl, ((HB.out.setCell (by simp) _).setCell (by simp) _).drew⟩
end Go.Proofs.YtppanjdhfecmpaaDoor
