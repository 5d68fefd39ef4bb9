/-
  What errors.As answers of an error that is a chain of faults, at a target that is a pointer to a code; and so fault.Code.
-/
import Derived.Test.YtppanjdhfecmpaaDoorFaultD
namespace Go.Proofs.YtppanjdhfecmpaaDoor
open Go.RowKit Go.Extern.Stop Go.Stop Go.Extern

/-! ### the model's entries by names that a walk does not open -/
def vOfF : Array Value → Sem Value := fun args => ReflectliteValue.unpack (args.getD 0 (.tuple #[]))
def vTypeF : Array Value → Sem Value := ReflectliteValue.methodAny (ReflectliteValue.valueError "reflectlite.Value.Type" 0) fun t _ _ _ => ReflectliteType.toType t
def vIsNilF : Array Value → Sem Value := ReflectliteValue.method (ReflectliteValue.valueError "reflectlite.Value.IsNil" 0) ReflectliteValue.isNil
def vElemF : Array Value → Sem Value := ReflectliteValue.method (ReflectliteValue.valueError "reflectlite.Value.Elem" 0) ReflectliteValue.elem
def vSetF : Array Value → Sem Value := ReflectliteValue.set
def rtElemF : Array Value → Sem Value := ReflectliteType.method ReflectliteType.elem
def rtImplF : Array Value → Sem Value := ReflectliteType.relation "Implements" ReflectliteType.implements_
def rtAssignF : Array Value → Sem Value := ReflectliteType.relation "AssignableTo" ReflectliteType.assignableTo
def tOfF : Array Value → Sem Value := ReflectliteType.typeOf
def kindF : Array Value → Sem Value := ReflectliteType.abiMethod fun t => do pure (.int .u8 (← Rtype.kind t))

/-- The handle of a type. -/
abbrev hnd (t : Nat) : Value := .agg #[.pointer (some ⟨4, t, none⟩)]
/-- The Value of a *Errno that lies at a; the Value of an Errno there; that of an Errno that may be set. -/
abbrev valP (a : Addr) : Value := .agg #[.pointer (some ⟨4, 57, none⟩), .pointer (some a), .int .u64 150]
abbrev valE (a : Addr) : Value := .agg #[.pointer (some ⟨4, 22, none⟩), .pointer (some a), .int .u64 130]
abbrev valS (a : Addr) : Value := .agg #[.pointer (some ⟨4, 22, none⟩), .pointer (some a), .int .u64 386]

theorem e_typeOfE (v : Value) (w : World) : (tOfF #[.iface 22 v]).run Tryd.prog w = .ok (.iface 82 (hnd 22)) w := by kernel_rfl
theorem e_typeOfF (v : Value) (w : World) : (tOfF #[.iface 46 v]).run Tryd.prog w = .ok (.iface 82 (hnd 46)) w := by kernel_rfl
theorem e_assignE (w : World) : (rtAssignF #[hnd 22, .iface 82 (hnd 22)]).run Tryd.prog w = .ok (.bool true) w := by kernel_rfl
theorem e_assignF (w : World) : (rtAssignF #[hnd 46, .iface 82 (hnd 22)]).run Tryd.prog w = .ok (.bool false) w := by kernel_rfl
theorem e_implE (w : World) : (rtImplF #[hnd 22, .iface 82 (hnd 26)]).run Tryd.prog w = .ok (.bool true) w := by kernel_rfl
theorem e_elemP (w : World) : (rtElemF #[hnd 57]).run Tryd.prog w = .ok (.iface 82 (hnd 22)) w := by kernel_rfl
theorem e_kindP (w : World) : (kindF #[.pointer (some ⟨4, 57, none⟩)]).run Tryd.prog w = .ok (.int .u8 22) w := by kernel_rfl
theorem e_kindE (w : World) : (kindF #[.pointer (some ⟨4, 22, none⟩)]).run Tryd.prog w = .ok (.int .u8 2) w := by kernel_rfl
theorem e_mKind (h : Value) (w : World) : (Go.method 242 82 (.agg #[h]) "Kind").run Tryd.prog w = .ok (66, h) w := by kernel_rfl
theorem e_mElem (h : Value) (w : World) : (Go.method 242 82 (.agg #[h]) "Elem").run Tryd.prog w = .ok (77, .agg #[h]) w := by kernel_rfl
theorem e_mImpl (h : Value) (w : World) : (Go.method 242 82 (.agg #[h]) "Implements").run Tryd.prog w = .ok (78, .agg #[h]) w := by kernel_rfl
theorem e_mAssign (h : Value) (w : World) : (Go.method 242 82 (.agg #[h]) "AssignableTo").run Tryd.prog w = .ok (75, .agg #[h]) w := by kernel_rfl
theorem e_valueOfP (t : Addr) (w : World) : (vOfF #[.iface 57 (.pointer (some t))]).run Tryd.prog w = .ok (valP ⟨w.heap.size, 0, none⟩) (w.alloc (.cells #[.pointer (some t)] 57)) := by kernel_rfl
theorem e_valueOfE (n : Int) (w : World) : (vOfF #[.iface 22 (.int .i64 n)]).run Tryd.prog w = .ok (valE ⟨w.heap.size, 0, none⟩) (w.alloc (.cells #[.int .i64 n] 22)) := by kernel_rfl
theorem e_typeP (a : Addr) (w : World) : (vTypeF #[valP a]).run Tryd.prog w = .ok (.iface 82 (hnd 57)) w := by kernel_rfl
theorem e_noAs (v : Value) (xT : TypeId) (w : World) : (Instr.typeAssert (.iface 46 v) xT 86 true).run Tryd.prog w = .ok (.tuple #[.nilIface, .bool false]) w := run_typeAssert_lacksB Tryd.underlying86 (by kernel_rfl) (by kernel_rfl) v xT w

/-! ### the entries that read or write memory -/
theorem e_partsP (a : Addr) (w : World) : (ReflectliteValue.parts (valP a)).run Tryd.prog w = .ok (some (57, a, 150)) w := by kernel_rfl
theorem e_partsE (a : Addr) (w : World) : (ReflectliteValue.parts (valE a)).run Tryd.prog w = .ok (some (22, a, 130)) w := by kernel_rfl
theorem e_partsS (a : Addr) (w : World) : (ReflectliteValue.parts (valS a)).run Tryd.prog w = .ok (some (22, a, 386)) w := by kernel_rfl
theorem e_isNil (a p : Addr) (W : World) (ha : W.cell? a = some (.pointer (some p))) : (vIsNilF #[valP a]).run Tryd.prog W = .ok (.bool false) W := by
  show Sem.run Tryd.prog ((ReflectliteValue.parts (valP a)) >>= _) W = _
  simp only [Sem.run_bind, e_partsP, Result.andThen]
  simp [ReflectliteValue.isNil, loadVar, isAgg, underlying, Tryd.underlying57, ha, Result.andThen]
theorem e_elemOf (w : World) : (Rtype.elem? 57).run Tryd.prog w = .ok (some 22) w := by kernel_rfl
theorem e_mk (p : Addr) (w : World) : (ReflectliteValue.mk 22 p ReflectliteValue.flagAddr).run Tryd.prog w = .ok (valS p) w := by kernel_rfl
theorem e_elemV (a p : Addr) (W : World) (ha : W.cell? a = some (.pointer (some p))) : (vElemF #[valP a]).run Tryd.prog W = .ok (valS p) W := by
  show Sem.run Tryd.prog ((ReflectliteValue.parts (valP a)) >>= _) W = _
  simp only [Sem.run_bind, e_partsP, Result.andThen]
  simp [ReflectliteValue.elem, loadVar, isAgg, underlying, Tryd.underlying57, ha, Result.andThen, e_elemOf, e_mk]
theorem e_direct (w : World) : (Rtype.directlyAssignable 22 22).run Tryd.prog w = .ok true w := by kernel_rfl
theorem e_set (t b : Addr) (n : Int) (old : Value) (W : World) (hb : W.cell? b = some (.int .i64 n)) (ht : W.cell? t = some old) (hf : W.frozen? t = false) :
    (vSetF #[valS t, valE b]).run Tryd.prog W = .ok (.tuple #[]) (W.setCell t (.int .i64 n)) := by
  show Sem.run Tryd.prog ((ReflectliteValue.parts (valS t)) >>= fun q => (ReflectliteValue.parts (valE b)) >>= _) W = _
  simp only [Sem.run_bind, e_partsS, e_partsE, Result.andThen]
  simp [ReflectliteValue.flagAddr, loadVar, isAgg, underlying, Tryd.underlying22, hb, Result.andThen, e_direct, storeVar, Value.cells, storeCells, Addr.add]
  rw [run_store Tryd.prog W t _ _ (by rfl)]
  simp [ht, hf]

theorem lt_of_cell {w : World} {p : Addr} {v : Value} (h : w.cell? p = some v) : p.block < w.heap.size := World.block_lt_of_cell? w p h

/-- errors.as at the chain: the world behind it. -/
def asWorld (w : World) (a t : Addr) (e : Int) : World :=
  ((w.alloc (.cells #[.pointer (some ⟨4, 57, none⟩), .pointer (some a), .int .u64 150] 69)).alloc (.cells #[.int .i64 e] 22)).setCell t (.int .i64 e)
def AsIs (w : World) (a t : Addr) (e : Int) (r : Ending) (w' : World) : Prop := r = .returned (.bool true) ∧ w' = asWorld w a t e

set_option maxHeartbeats 1000000 in
theorem as_err {w : World} {e : Int} {l : List (ByteArray × Int)} {v : Value} (a t : Addr) (old : Value) (h : Err w e l v) (ha : w.cell? a = some (.pointer (some t))) (ht : w.cell? t = some old) (hf : w.frozen? t = false) :
    Calls Tryd.prog 31 #[v, .iface 57 (.pointer (some t)), valP a, .iface 82 (hnd 22)] w (AsIs w a t e) := by
  have hal := lt_of_cell ha
  have htl := lt_of_cell ht
  have h32 := @run_callFunc_extern Tryd.prog 32 _ tOfF Tryd.func32 (by kernel_rfl) (by kernel_rfl) (by kernel_rfl) (by kernel_rfl)
  have h75 := @run_callFunc_extern Tryd.prog 75 _ rtAssignF Tryd.func75 (by kernel_rfl) (by kernel_rfl) (by kernel_rfl) (by kernel_rfl)
  have h37 := @run_callFunc_extern Tryd.prog 37 _ vElemF Tryd.func37 (by kernel_rfl) (by kernel_rfl) (by kernel_rfl) (by kernel_rfl)
  have h38 := @run_callFunc_extern Tryd.prog 38 _ vSetF Tryd.func38 (by kernel_rfl) (by kernel_rfl) (by kernel_rfl) (by kernel_rfl)
  have h28 := @run_callFunc_extern Tryd.prog 28 _ vOfF Tryd.func28 (by kernel_rfl) (by kernel_rfl) (by kernel_rfl) (by kernel_rfl)
  have k1 := e_typeOfE
  have k2 := e_typeOfF
  have k3 := e_assignE
  have k4 := e_assignF
  have k5 := e_mAssign
  have k6 := e_valueOfE
  have k7 := e_noAs
  have k8 := un_fault
  have k9 := method_unwrap
  have kE := e_elemV a t (w.alloc (.cells #[.pointer (some ⟨4, 57, none⟩), .pointer (some a), .int .u64 150] 69)) (by rw [World.cell?_alloc_lt _ _ a hal]; exact ha)
  have kS := e_set t ⟨w.heap.size + 1, 0, none⟩ e old ((w.alloc (.cells #[.pointer (some ⟨4, 57, none⟩), .pointer (some a), .int .u64 150] 69)).alloc (.cells #[.int .i64 e] 22))
    (by rw [World.cell?_alloc_at _ _ _ _ (by simp)]; rfl)
    (by rw [World.cell?_alloc_lt _ _ t (by simp; omega), World.cell?_alloc_lt _ _ t htl]; exact ht)
    (by rw [World.frozen?_alloc_old _ _ t (by simp; omega), World.frozen?_alloc_old _ _ t (Nat.ne_of_lt htl)]; exact hf)
  have H := Lib.hid h
  clear h ha ht hf
  go_enter Tryd.func31, Tryd.ntmps31
  go_wp2_with fail
  go_loopg [0] l.length (fun k u wr => w.alloc (.cells #[.pointer (some ⟨4, 57, none⟩), .pointer (some a), .int .u64 150] 69) = wr ∧ ∃ l' : List (ByteArray × Int), l'.length = k ∧ Err w e l' u)
  case atStart => exact ⟨rfl, l, rfl, H.out⟩
  case round =>
    clear H
    obtain ⟨rfl, l', hk, hm⟩ := hrel
    have HK := Lib.hid hk
    clear hk
    cases l' with
    | nil =>
      obtain rfl : _ = _ := hm
      go_wp2
      go_ret
      exact ⟨rfl, rfl⟩
    | cons s l2 =>
      obtain ⟨b, u, rfl, hlt, h0, h1, h2, hr⟩ := hm
      obtain ⟨tt, x, rfl⟩ := hr.form
      have HR := Lib.hid hr
      clear hr
      go_wp2_with fail
      refine (unwrap_some b _ _ ((World.cell?_alloc_lt _ _ ⟨b, 2, none⟩ hlt).trans h2)).mono ?_
      rintro r w' ⟨rfl, rfl⟩
      go_wp2_with fail
      go_roundg l2.length
      case rel => exact ⟨rfl, l2, rfl, HR.out⟩
      case measure => have := HK.out; simp at this; omega
end Go.Proofs.YtppanjdhfecmpaaDoor
