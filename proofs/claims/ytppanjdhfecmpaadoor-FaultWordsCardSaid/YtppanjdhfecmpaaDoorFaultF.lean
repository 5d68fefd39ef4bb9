/-
  fault.Code of an error that is a chain of faults, and of none: its code.
-/
import Derived.Test.YtppanjdhfecmpaaDoorFaultE
namespace Go.Proofs.YtppanjdhfecmpaaDoor
open Go.RowKit Go.Extern.Stop Go.Stop Go.Extern

/-- The one package variable that errors.As reads. -/
def Gl (w : World) : Prop := w.cell? ⟨0, 0, none⟩ = some (.iface 82 (hnd 26))
theorem Gl.below {w w' : World} (h : Gl w) (hb : Below w.heap.size w w') : Gl w' := (hb.cell (p := ⟨0, 0, none⟩) (lt_of_cell h)).trans h

def AsDone (w : World) (t : Addr) (e : Int) (r : Ending) (w' : World) : Prop :=
  r = .returned (.bool true) ∧ w'.cell? t = some (.int .i64 e) ∧ ∀ B, B ≤ t.block → B ≤ w.heap.size → Below B w w'

theorem asWorld_below {w : World} {a t : Addr} {e : Int} {B : Nat} (h1 : B ≤ t.block) (h2 : B ≤ w.heap.size) : Below B w (asWorld w a t e) :=
  (((Below.refl B w).alloc h2 _).alloc (by simp; omega) _).setCell h1 _
theorem asWorld_cell {w : World} {a t : Addr} {e : Int} {old : Value} (ht : w.cell? t = some old) : (asWorld w a t e).cell? t = some (.int .i64 e) := by
  have htl := lt_of_cell ht
  unfold asWorld
  refine World.cell?_setCell_same _ _ _ (u := old) ?_
  rw [World.cell?_alloc_lt _ _ t (by simp; omega), World.cell?_alloc_lt _ _ t htl]; exact ht

theorem as_nil (t : Value) (w : World) : Calls Tryd.prog 22 #[.nilIface, t] w fun r w' => r = .returned (.bool false) ∧ w = w' := by
  go_enter Tryd.func22, Tryd.ntmps22
  go_wp2
  go_ret
  exact ⟨rfl, rfl⟩

set_option maxHeartbeats 1000000 in
theorem eAs_err {w : World} {e : Int} {l : List (ByteArray × Int)} {v : Value} (t : Addr) (old : Value) (hg : Gl w) (h : Err w e l v) (ht : w.cell? t = some old) (hf : w.frozen? t = false) :
    Calls Tryd.prog 22 #[v, .iface 57 (.pointer (some t))] w (AsDone w t e) := by
  have htl := lt_of_cell ht
  have hgl := lt_of_cell hg
  have h28 := @run_callFunc_extern Tryd.prog 28 _ vOfF Tryd.func28 (by kernel_rfl) (by kernel_rfl) (by kernel_rfl) (by kernel_rfl)
  have h29 := @run_callFunc_extern Tryd.prog 29 _ vTypeF Tryd.func29 (by kernel_rfl) (by kernel_rfl) (by kernel_rfl) (by kernel_rfl)
  have h30 := @run_callFunc_extern Tryd.prog 30 _ vIsNilF Tryd.func30 (by kernel_rfl) (by kernel_rfl) (by kernel_rfl) (by kernel_rfl)
  have h66 := @run_callFunc_extern Tryd.prog 66 _ kindF Tryd.func66 (by kernel_rfl) (by kernel_rfl) (by kernel_rfl) (by kernel_rfl)
  have h77 := @run_callFunc_extern Tryd.prog 77 _ rtElemF Tryd.func77 (by kernel_rfl) (by kernel_rfl) (by kernel_rfl) (by kernel_rfl)
  have h78 := @run_callFunc_extern Tryd.prog 78 _ rtImplF Tryd.func78 (by kernel_rfl) (by kernel_rfl) (by kernel_rfl) (by kernel_rfl)
  have k1 := e_valueOfP
  have k2 := e_typeP
  have k3 := e_mKind
  have k4 := e_kindP
  have k5 := e_kindE
  have k6 := e_mElem
  have k7 := e_elemP
  have k8 := e_mImpl
  have k9 := e_implE
  have kN := e_isNil ⟨w.heap.size, 0, none⟩ t ((w.alloc (.cells #[.pointer (some t)] 57)).alloc (.cells #[.pointer (some ⟨4, 57, none⟩), .pointer (some ⟨w.heap.size, 0, none⟩), .int .u64 150] 69)) (by simp)
  have hg2 : ((w.alloc (.cells #[.pointer (some t)] 57)).alloc (.cells #[.pointer (some ⟨4, 57, none⟩), .pointer (some ⟨w.heap.size, 0, none⟩), .int .u64 150] 69)).cell? ⟨0, 0, none⟩ = some (.iface 82 (hnd 26)) := by
    rw [World.cell?_alloc_lt _ _ ⟨0, 0, none⟩ (by simp), World.cell?_alloc_lt _ _ ⟨0, 0, none⟩ hgl]; exact hg
  have HB := Lib.hid (((Below.refl w.heap.size w).alloc (Nat.le_refl _) (.cells #[.pointer (some t)] 57)).alloc (by simp) (.cells #[.pointer (some ⟨4, 57, none⟩), .pointer (some ⟨w.heap.size, 0, none⟩), .int .u64 150] 69))
  have HT := Lib.hid ((HB.out.cell (p := t) htl).trans ht)
  have HF := Lib.hid ((HB.out.frozen (p := t) htl).trans hf)
  have HA : Hid (((w.alloc (.cells #[.pointer (some t)] 57)).alloc (.cells #[.pointer (some ⟨4, 57, none⟩), .pointer (some ⟨w.heap.size, 0, none⟩), .int .u64 150] 69)).cell? ⟨w.heap.size, 0, none⟩ = some (.pointer (some t))) := Lib.hid (by simp)
  have H := Lib.hid (h.below HB.out)
  obtain ⟨tt, x, rfl⟩ := h.form
  clear h ht hf hg
  go_enter Tryd.func22, Tryd.ntmps22
  go_wp2_with (go_at_call 31; refine (as_err _ t old H.out HA.out HT.out HF.out).mono ?_; rintro r w' ⟨rfl, rfl⟩)
  go_ret
  refine ⟨rfl, asWorld_cell HT.out, fun B h1 h2 => ?_⟩
  exact (HB.out.mono h2).trans (asWorld_below h1 (by simp; omega))

def CodeIs (w : World) (e : Int) (r : Ending) (w' : World) : Prop := r = .returned (.int .i64 e) ∧ Below w.heap.size w w'

theorem code_nil (w : World) : Calls Tryd.prog 11 #[.nilIface] w (CodeIs w 0) := by
  go_enter Tryd.func11, Tryd.ntmps11
  go_wp2_with (go_at_call 22; refine (as_nil _ _).mono ?_; rintro r w' ⟨rfl, rfl⟩)
  go_ret
  exact ⟨rfl, (Below.refl _ _).alloc (Nat.le_refl _) _⟩

theorem code_err {w : World} {e : Int} {l : List (ByteArray × Int)} {v : Value} (hg : Gl w) (h : Err w e l v) : Calls Tryd.prog 11 #[v] w (CodeIs w e) := by
  have HB := Lib.hid ((Below.refl w.heap.size w).alloc (Nat.le_refl _) (.cells #[.int .i64 0] 22))
  have H := Lib.hid (h.below HB.out)
  have HG := Lib.hid (hg.below HB.out)
  clear h hg
  go_enter Tryd.func11, Tryd.ntmps11
  go_wp2_with (go_at_call 22; refine (eAs_err ⟨w.heap.size, 0, none⟩ (.int .i64 0) HG.out H.out (by simp) (by simp)).mono ?_; rintro r w' ⟨rfl, hc, hb⟩; have HX := Lib.hid hb; clear hb)
  go_ret
  exact ⟨rfl, HB.out.trans (HX.out _ (Nat.le_refl _) (by simp))⟩
end Go.Proofs.YtppanjdhfecmpaaDoor
