/-
  What fault.met, fault.Wrap, (*Fault).Unwrap, fault.Place do in memory: an error is a chain of faults that ends in a code.
-/
import Derived.Test.YtppanjdhfecmpaaDoorChecked
import Derived.WalkKit
import Derived.LaidEql
import Derived.Stop.Asserts
import Derived.RowKitTokens
import Derived.Below
import Derived.Outline
import Derived.Lib.Hide
import Derived.Deep.LoopGhost
namespace Go.Proofs.YtppanjdhfecmpaaDoor
open Go.RowKit Go.Extern.Stop Go.Stop Go.Extern

/-- v is an error with the code e, wrapped by l (the outermost first). -/
def Err (w : World) (e : Int) : List (ByteArray × Int) → Value → Prop
  | [], v => v = .iface 22 (.int .i64 e)
  | s :: l, v => ∃ (b : Nat) (u : Value), v = .iface 46 (.pointer (some ⟨b, 0, none⟩)) ∧ b < w.heap.size ∧
      w.cell? ⟨b, 0, none⟩ = some (.string s.1) ∧ w.cell? ⟨b, 1, none⟩ = some (.int .i64 s.2) ∧ w.cell? ⟨b, 2, none⟩ = some u ∧ Err w e l u

theorem Err.below {w w' : World} {e : Int} (hb : Below w.heap.size w w') : ∀ {l : List (ByteArray × Int)} {v : Value}, Err w e l v → Err w' e l v
  | [], _, h => h
  | _ :: _, _, ⟨b, u, hv, hlt, h0, h1, h2, hr⟩ =>
    ⟨b, u, hv, Nat.lt_of_lt_of_le hlt hb.size, (hb.cell (p := ⟨b, 0, none⟩) hlt).trans h0, (hb.cell (p := ⟨b, 1, none⟩) hlt).trans h1, (hb.cell (p := ⟨b, 2, none⟩) hlt).trans h2, Err.below hb hr⟩

/-! ### what the type switches find -/
theorem ta_fault_errno (n : Value) (xT : TypeId) (w : World) : (Instr.typeAssert (.iface 22 n) xT 46 true).run Tryd.prog w = .ok (.tuple #[.pointer none, .bool false]) w := by kernel_rfl
theorem ta_fault_fault (n : Value) (xT : TypeId) (w : World) : (Instr.typeAssert (.iface 46 n) xT 46 true).run Tryd.prog w = .ok (.tuple #[n, .bool true]) w := by kernel_rfl
theorem ta_fault_nil (xT : TypeId) (w : World) : (Instr.typeAssert .nilIface xT 46 true).run Tryd.prog w = .ok (.tuple #[.pointer none, .bool false]) w := by kernel_rfl
theorem ta_errno_errno (n : Value) (xT : TypeId) (w : World) : (Instr.typeAssert (.iface 22 n) xT 22 true).run Tryd.prog w = .ok (.tuple #[n, .bool true]) w := by kernel_rfl
theorem ta_errno_fault (n : Value) (xT : TypeId) (w : World) : (Instr.typeAssert (.iface 46 n) xT 22 true).run Tryd.prog w = .ok (.tuple #[.int .i64 0, .bool false]) w := by kernel_rfl

theorem met_errno (n : Value) (w : World) : Calls Tryd.prog 21 #[.iface 22 n] w fun r w' => r = .returned (.pointer none) ∧ w = w' := by
  have h := ta_fault_errno
  go_enter Tryd.func21, Tryd.ntmps21
  go_wp2
  go_ret
  exact ⟨rfl, rfl⟩
theorem met_nil (w : World) : Calls Tryd.prog 21 #[.nilIface] w fun r w' => r = .returned (.pointer none) ∧ w = w' := by
  have h := ta_fault_nil
  go_enter Tryd.func21, Tryd.ntmps21
  go_wp2
  go_ret
  exact ⟨rfl, rfl⟩
theorem met_fault (a : Option Addr) (w : World) : Calls Tryd.prog 21 #[.iface 46 (.pointer a)] w fun r w' => r = .returned (.pointer a) ∧ w = w' := by
  have h := ta_fault_fault
  go_enter Tryd.func21, Tryd.ntmps21
  go_wp2
  go_ret
  exact ⟨rfl, rfl⟩

theorem wrap_nil (op : ByteArray) (n : Int) (w : World) : Calls Tryd.prog 16 #[.string op, .int .i64 n, .nilIface] w fun r w' => r = .returned .nilIface ∧ w = w' := by
  go_enter Tryd.func16, Tryd.ntmps16
  go_wp2
  go_ret
  exact ⟨rfl, rfl⟩
theorem wrap_ok (op : ByteArray) (n : Int) (w : World) : Calls Tryd.prog 16 #[.string op, .int .i64 n, .iface 22 (.int .i64 0)] w fun r w' => r = .returned .nilIface ∧ w = w' := by
  have h := ta_errno_errno
  go_enter Tryd.func16, Tryd.ntmps16
  go_wp2
  go_ret
  exact ⟨rfl, rfl⟩
theorem wrap_errno (op : ByteArray) (n e : Int) (w : World) (he : (e == 0) = false) : Calls Tryd.prog 16 #[.string op, .int .i64 n, .iface 22 (.int .i64 e)] w fun r w' => r = .returned (.iface 46 (.pointer (some ⟨w.heap.size, 0, none⟩))) ∧ w' = w.alloc (.cells #[.string op, .int .i64 n, .iface 22 (.int .i64 e)] 48) := by
  have h := ta_errno_errno
  go_enter Tryd.func16, Tryd.ntmps16
  go_wp2
  go_ret
  exact ⟨rfl, rfl⟩
theorem wrap_fault (op : ByteArray) (n : Int) (v : Value) (w : World) : Calls Tryd.prog 16 #[.string op, .int .i64 n, .iface 46 v] w fun r w' => r = .returned (.iface 46 (.pointer (some ⟨w.heap.size, 0, none⟩))) ∧ w' = w.alloc (.cells #[.string op, .int .i64 n, .iface 46 v] 48) := by
  have h := ta_errno_fault
  go_enter Tryd.func16, Tryd.ntmps16
  go_wp2
  go_ret
  exact ⟨rfl, rfl⟩
theorem unwrap_some (b : Nat) (u : Value) (w : World) (h2 : w.cell? ⟨b, 2, none⟩ = some u) : Calls Tryd.prog 17 #[.pointer (some ⟨b, 0, none⟩)] w fun r w' => r = .returned u ∧ w = w' := by
  go_enter Tryd.func17, Tryd.ntmps17
  go_wp2
  go_ret
  exact ⟨rfl, rfl⟩
end Go.Proofs.YtppanjdhfecmpaaDoor
