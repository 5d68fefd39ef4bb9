/-
  The errors of the landed slots: a fault around a code, or none; Wrap, errors.Is and Code of such.
-/
import Derived.Test.YthmpimjmajoimaaGreatDoorSr22
namespace Go.Proofs.YthmpimjmajoimaaGreatDoor
open Go.RowKit

/-- v tells the code k: none, or a fault that lies in F, around the code. -/
def slEr (F : Nat → Prop) (w : World) (k : Int) (v : Value) : Prop :=
  (k = 0 ∧ v = .nilIface) ∨ (k ≠ 0 ∧ ∃ (b : Nat) (op : ByteArray) (n : Int), v = .iface 143 (.pointer (some ⟨b, 0, none⟩)) ∧ F b ∧ Blk w b 145 [.string op, .int .i64 n, .iface 31 (.int .i64 k)])
theorem slEr.err {F : Nat → Prop} {w : World} {k : Int} {v : Value} (h : slEr F w k v) (hk : k ≠ 0) : ∃ op n, Err w k [(op, n)] v := by
  rcases h with ⟨h0, _⟩ | ⟨_, b, op, n, rfl, _, hb⟩
  · exact absurd h0 hk
  · exact ⟨op, n, b, _, rfl, lt_of_block hb, hb.cell 0 (by simp), hb.cell 1 (by simp), hb.cell 2 (by simp), rfl⟩
theorem slEr.keep {F G : Nat → Prop} {w w' : World} {k : Int} {v : Value} (h : slEr F w k v) (hk : Kept G w w') (hn : ∀ j, F j → ¬ G j) : slEr F w' k v :=
  h.imp id (fun ⟨h0, b, op, n, e, hb, hx⟩ => ⟨h0, b, op, n, e, hb, hk.blk hx (hn b hb)⟩)
theorem slEr.mono {F G : Nat → Prop} {w : World} {k : Int} {v : Value} (h : slEr F w k v) (hf : ∀ j, F j → G j) : slEr G w k v :=
  h.imp id (fun ⟨h0, b, op, n, e, hb, hx⟩ => ⟨h0, b, op, n, e, hf b hb, hx⟩)
theorem slEr.up {F : Nat → Prop} {w w' : World} {k : Int} {v : Value} (h : slEr F w k v) (hb : Below w.heap.size w w') : slEr F w' k v := h.keep (G := fun _ => False) (Kept.of_below hb) (fun _ _ => id)
theorem slEr.no {F : Nat → Prop} {w : World} : slEr F w 0 .nilIface := .inl ⟨rfl, rfl⟩
theorem slEr.some {F : Nat → Prop} {w : World} {k : Int} {v : Value} (h : slEr F w k v) (hk : k ≠ 0) : ∃ b, v = .iface 143 (.pointer (some ⟨b, 0, none⟩)) :=
  h.elim (fun x => absurd x.1 hk) (fun ⟨_, b, _, _, e, _⟩ => ⟨b, e⟩)
/-- The landed slots' errors. -/
noncomputable def slX : EOps where
  E := slEr
  keep := fun h hk hn => h.keep hk hn
  mono := fun h hf => h.mono hf
  none := fun h => h.elim (fun x => x.2) (fun x => absurd rfl x.1)
  some := fun h hk => by
    obtain ⟨b, e⟩ := slEr.some h hk
    exact ⟨_, _, e⟩
  code := by
    intro F w k v h hg
    by_cases hk : k = 0
    · subst hk
      obtain rfl : v = .nilIface := h.elim (fun x => x.2) (fun x => absurd rfl x.1)
      exact code_nil w
    · obtain ⟨op, n, he⟩ := slEr.err h hk
      exact code_err hg he
/-- What Wrap tells. -/
def WrapIs (k : Int) (w : World) (r : Ending) (w' : World) : Prop := ∃ v, r = .returned v ∧ slEr (newB w w') w' k v ∧ Below w.heap.size w w'
theorem slwrap_at (op : ByteArray) (n k : Int) (w : World) : Calls Tryz.prog 38 #[.string op, .int .i64 n, errV k] w (WrapIs k w) := by
  by_cases hk : k = 0
  · subst hk
    refine (wrap_nil op n w).mono ?_
    rintro r w' ⟨rfl, rfl⟩
    exact ⟨_, rfl, slEr.no, Below.refl _ _⟩
  · rw [show errV k = .iface 31 (.int .i64 k) from if_neg hk]
    refine (wrap_errno op n k w (by simpa using hk)).mono ?_
    rintro r w' ⟨rfl, rfl⟩
    exact ⟨_, rfl, .inr ⟨hk, _, op, n, rfl, ⟨Nat.le_refl _, by simp⟩, heap_alloc_new w _⟩, (Below.refl _ _).alloc (Nat.le_refl _) _⟩
theorem eq_nil_errno (t : Int) (w : World) : (binOp .eql 27 .nilIface (.iface 31 (.int .i64 t))).run Tryz.prog w = .ok (.bool false) w := by kernel_rfl
set_option maxRecDepth 100000 in
theorem eIs_none (t : Int) (w : World) : Calls Tryz.prog 57 #[.nilIface, .iface 31 (.int .i64 t)] w (BoolIsq1 w false) := by
  have h := eq_nil_errno
  go_enter Tryz.func57, Tryz.ntmps57
  go_wp2
  go_ret
  exact ⟨rfl, rfl⟩
theorem slIs_at {F : Nat → Prop} {w : World} {k : Int} {v : Value} (t : Int) (ht : t ≠ 0) (h : slEr F w k v) : Calls Tryz.prog 57 #[v, .iface 31 (.int .i64 t)] w (BoolIsq1 w (decide (k = t))) := by
  by_cases hk : k = 0
  · subst hk
    obtain rfl : v = .nilIface := h.elim (fun x => x.2) (fun x => absurd rfl x.1)
    rw [show decide ((0 : Int) = t) = false by simpa using fun e => ht e.symm]
    exact eIs_none t w
  · obtain ⟨op, n, he⟩ := h.err hk
    exact eIs_err t he
end Go.Proofs.YthmpimjmajoimaaGreatDoor
