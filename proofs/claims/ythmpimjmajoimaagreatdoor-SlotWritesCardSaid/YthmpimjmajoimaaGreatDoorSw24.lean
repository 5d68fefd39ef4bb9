/-
  fault.Code of an error that is a chain of faults, and of none: its code.
  The errors of the landed slots: a fault around a code, or none; Wrap, errors.Is and Code of such.
-/
import Derived.Test.YthmpimjmajoimaaGreatDoorSw01
import Derived.Test.YthmpimjmajoimaaGreatDoorSw23
namespace Go.Proofs.YthmpimjmajoimaaGreatDoor
open Go.RowKit Go.Extern.Stop Go.Stop Go.Extern

set_option maxHeartbeats 1000000 in
theorem eAs_err {w : World} {e : Int} {l : List (ByteArray × Int)} {v : Value} (t : Addr) (old : Value) (hg : Gl w) (h : Err w e l v) (ht : w.cell? t = some old) (hf : w.frozen? t = false) :
    Calls Tryz.prog 34 #[v, .iface 86 (.pointer (some t))] w (AsDone w t e) := by
  have htl := lt_of_cell ht
  have hgl := lt_of_cell hg
  have h28 := @run_callFunc_extern Tryz.prog 69 _ vOfF Tryz.func69 (by kernel_rfl) (by kernel_rfl) (by kernel_rfl) (by kernel_rfl)
  have h29 := @run_callFunc_extern Tryz.prog 70 _ vTypeF Tryz.func70 (by kernel_rfl) (by kernel_rfl) (by kernel_rfl) (by kernel_rfl)
  have h30 := @run_callFunc_extern Tryz.prog 71 _ vIsNilF Tryz.func71 (by kernel_rfl) (by kernel_rfl) (by kernel_rfl) (by kernel_rfl)
  have h66 := @run_callFunc_extern Tryz.prog 157 _ kindF Tryz.func157 (by kernel_rfl) (by kernel_rfl) (by kernel_rfl) (by kernel_rfl)
  have h77 := @run_callFunc_extern Tryz.prog 169 _ rtElemF Tryz.func169 (by kernel_rfl) (by kernel_rfl) (by kernel_rfl) (by kernel_rfl)
  have h78 := @run_callFunc_extern Tryz.prog 170 _ rtImplF Tryz.func170 (by kernel_rfl) (by kernel_rfl) (by kernel_rfl) (by kernel_rfl)
  have k1 := e_valueOfP
  have k2 := e_typeP
  have k3 := e_mKind
  have k4 := e_kindP
  have k5 := e_kindE
  have k6 := e_mElem
  have k7 := e_elemP
  have k8 := e_mImpl
  have k9 := e_implE
  have kN := e_isNil ⟨w.heap.size, 0, none⟩ t ((w.alloc (.cells #[.pointer (some t)] 86)).alloc (.cells #[.pointer (some ⟨1, 86, none⟩), .pointer (some ⟨w.heap.size, 0, none⟩), .int .u64 150] 133)) (by simp)
  have hg2 : ((w.alloc (.cells #[.pointer (some t)] 86)).alloc (.cells #[.pointer (some ⟨1, 86, none⟩), .pointer (some ⟨w.heap.size, 0, none⟩), .int .u64 150] 133)).cell? ⟨0, 0, none⟩ = some (.iface 170 (hnd 27)) := by
    rw [World.cell?_alloc_lt _ _ ⟨0, 0, none⟩ (by simp), World.cell?_alloc_lt _ _ ⟨0, 0, none⟩ hgl]; exact hg
  have HB := Lib.hid (((Below.refl w.heap.size w).alloc (Nat.le_refl _) (.cells #[.pointer (some t)] 86)).alloc (by simp) (.cells #[.pointer (some ⟨1, 86, none⟩), .pointer (some ⟨w.heap.size, 0, none⟩), .int .u64 150] 133))
  have HT := Lib.hid ((HB.out.cell (p := t) htl).trans ht)
  have HF := Lib.hid ((HB.out.frozen (p := t) htl).trans hf)
  have HA : Hid (((w.alloc (.cells #[.pointer (some t)] 86)).alloc (.cells #[.pointer (some ⟨1, 86, none⟩), .pointer (some ⟨w.heap.size, 0, none⟩), .int .u64 150] 133)).cell? ⟨w.heap.size, 0, none⟩ = some (.pointer (some t))) := Lib.hid (by simp)
  have H := Lib.hid (h.below HB.out)
  obtain ⟨tt, x, rfl⟩ := h.form
  clear h ht hf hg
  go_enter Tryz.func34, Tryz.ntmps34
  go_wp2_with (go_at_call 72; refine (as_err _ t old H.out HA.out HT.out HF.out).mono ?_; rintro r w' ⟨rfl, rfl⟩)
  go_ret
  refine ⟨rfl, asWorld_cell HT.out, fun B h1 h2 => ?_⟩
  exact (HB.out.mono h2).trans (asWorld_below h1 (by simp; omega))

theorem code_err {w : World} {e : Int} {l : List (ByteArray × Int)} {v : Value} (hg : Gl w) (h : Err w e l v) : Calls Tryz.prog 13 #[v] w (CodeIs w e) := by
  have HB := Lib.hid ((Below.refl w.heap.size w).alloc (Nat.le_refl _) (.cells #[.int .i64 0] 31))
  have H := Lib.hid (h.below HB.out)
  have HG := Lib.hid (hg.below HB.out)
  clear h hg
  go_enter Tryz.func13, Tryz.ntmps13
  go_wp2_with (go_at_call 34; refine (eAs_err ⟨w.heap.size, 0, none⟩ (.int .i64 0) HG.out H.out (by simp) (by simp)).mono ?_; rintro r w' ⟨rfl, hc, hb⟩; have HX := Lib.hid hb; clear hb)
  go_ret
  exact ⟨rfl, HB.out.trans (HX.out _ (Nat.le_refl _) (by simp))⟩
end Go.Proofs.YthmpimjmajoimaaGreatDoor
namespace Go.Proofs.YthmpimjmajoimaaGreatDoor
open Go.RowKit

/-- v tells the code k: none, or a fault that lies in F, around the code. -/
def slEr (F : Nat → Prop) (w : World) (k : Int) (v : Value) : Prop :=
  (k = 0 ∧ v = .nilIface) ∨ (k ≠ 0 ∧ ∃ (b : Nat) (op : ByteArray) (n : Int), v = .iface 143 (.pointer (some ⟨b, 0, none⟩)) ∧ F b ∧ Blk w b 145 [.string op, .int .i64 n, .iface 31 (.int .i64 k)])
theorem slEr.err {F : Nat → Prop} {w : World} {k : Int} {v : Value} (h : slEr F w k v) (hk : k ≠ 0) : ∃ op n, Err w k [(op, n)] v := by
  rcases h with ⟨h0, _⟩ | ⟨_, b, op, n, rfl, _, hb⟩
  · exact absurd h0 hk
  · exact ⟨op, n, b, _, rfl, lt_of_block hb, hb.cell 0 (by simp), hb.cell 1 (by simp), hb.cell 2 (by simp), rfl⟩
theorem slEr.keep {F G : Nat → Prop} {w w' : World} {k : Int} {v : Value} (h : slEr F w k v) (hk : Kept G w w') (hn : ∀ j, F j → ¬ G j) : slEr F w' k v :=
  h.imp id (fun ⟨h0, b, op, n, e, hb, hx⟩ => ⟨h0, b, op, n, e, hb, hk.blk hx (hn b hb)⟩)
theorem slEr.mono {F G : Nat → Prop} {w : World} {k : Int} {v : Value} (h : slEr F w k v) (hf : ∀ j, F j → G j) : slEr G w k v :=
  h.imp id (fun ⟨h0, b, op, n, e, hb, hx⟩ => ⟨h0, b, op, n, e, hf b hb, hx⟩)
theorem slEr.up {F : Nat → Prop} {w w' : World} {k : Int} {v : Value} (h : slEr F w k v) (hb : Below w.heap.size w w') : slEr F w' k v := h.keep (G := fun _ => False) (Kept.of_below hb) (fun _ _ => id)
theorem slEr.no {F : Nat → Prop} {w : World} : slEr F w 0 .nilIface := .inl ⟨rfl, rfl⟩
theorem slEr.some {F : Nat → Prop} {w : World} {k : Int} {v : Value} (h : slEr F w k v) (hk : k ≠ 0) : ∃ b, v = .iface 143 (.pointer (some ⟨b, 0, none⟩)) :=
  h.elim (fun x => absurd x.1 hk) (fun ⟨_, b, _, _, e, _⟩ => ⟨b, e⟩)
/-- The landed slots' errors. -/
noncomputable def slX : EOps where
  E := slEr
  keep := fun h hk hn => h.keep hk hn
  mono := fun h hf => h.mono hf
  none := fun h => h.elim (fun x => x.2) (fun x => absurd rfl x.1)
  some := fun h hk => by
    obtain ⟨b, e⟩ := slEr.some h hk
    exact ⟨_, _, e⟩
  code := by
    intro F w k v h hg
    by_cases hk : k = 0
    · subst hk
      obtain rfl : v = .nilIface := h.elim (fun x => x.2) (fun x => absurd rfl x.1)
      exact code_nil w
    · obtain ⟨op, n, he⟩ := slEr.err h hk
      exact code_err hg he
/-- What Wrap tells. -/
def WrapIs (k : Int) (w : World) (r : Ending) (w' : World) : Prop := ∃ v, r = .returned v ∧ slEr (newB w w') w' k v ∧ Below w.heap.size w w'
theorem slwrap_at (op : ByteArray) (n k : Int) (w : World) : Calls Tryz.prog 38 #[.string op, .int .i64 n, errV k] w (WrapIs k w) := by
  by_cases hk : k = 0
  · subst hk
    refine (wrap_nil op n w).mono ?_
    rintro r w' ⟨rfl, rfl⟩
    exact ⟨_, rfl, slEr.no, Below.refl _ _⟩
  · rw [show errV k = .iface 31 (.int .i64 k) from if_neg hk]
    refine (wrap_errno op n k w (by simpa using hk)).mono ?_
    rintro r w' ⟨rfl, rfl⟩
    exact ⟨_, rfl, .inr ⟨hk, _, op, n, rfl, ⟨Nat.le_refl _, by simp⟩, heap_alloc_new w _⟩, (Below.refl _ _).alloc (Nat.le_refl _) _⟩
theorem eq_nil_errno (t : Int) (w : World) : (binOp .eql 27 .nilIface (.iface 31 (.int .i64 t))).run Tryz.prog w = .ok (.bool false) w := by kernel_rfl
set_option maxRecDepth 100000 in
theorem eIs_none (t : Int) (w : World) : Calls Tryz.prog 57 #[.nilIface, .iface 31 (.int .i64 t)] w (BoolIsq1 w false) := by
  have h := eq_nil_errno
  go_enter Tryz.func57, Tryz.ntmps57
  go_wp2
  go_ret
  exact ⟨rfl, rfl⟩
theorem slIs_at {F : Nat → Prop} {w : World} {k : Int} {v : Value} (t : Int) (ht : t ≠ 0) (h : slEr F w k v) : Calls Tryz.prog 57 #[v, .iface 31 (.int .i64 t)] w (BoolIsq1 w (decide (k = t))) := by
  by_cases hk : k = 0
  · subst hk
    obtain rfl : v = .nilIface := h.elim (fun x => x.2) (fun x => absurd rfl x.1)
    rw [show decide ((0 : Int) = t) = false by simpa using fun e => ht e.symm]
    exact eIs_none t w
  · obtain ⟨op, n, he⟩ := h.err hk
    exact eIs_err t he
end Go.Proofs.YthmpimjmajoimaaGreatDoor
