/-
  What errors.Is answers of an error that is a chain of faults, at a target that is a code; and so fault.Is.
-/
import Derived.Test.YtppanjdhfecmpaaDoorFaultC
namespace Go.Proofs.YtppanjdhfecmpaaDoor
open Go.RowKit Go.Extern.Stop Go.Stop Go.Extern

/-! ### two errors of one integer type compared: as the numbers are -/
theorem eqIn_iface_int {P : Program} (w : World) (d : Nat) {ti tn : TypeId} {ms : Array (String × TypeId)} {i : TypeInfo} {k : IntKind} (a b : Int)
    (hi : P.underlying ti = some (.interface ms)) (hn : P.underlying tn = some (.int k)) (hinfo : P.info? tn = some i) (hcomp : i.comparable = true) :
    (Op.equalIn (d + 2) ti (.iface tn (.int k a)) (.iface tn (.int k b))).run P w = .ok (a == b) w := by
  simp [Op.equalIn, run_underlying hi, run_underlying hn, typeInfo, hinfo, hcomp]
theorem eq_iface_int {P : Program} (w : World) {ti tn : TypeId} {ms : Array (String × TypeId)} {i : TypeInfo} {k : IntKind} (a b : Int)
    (hi : P.underlying ti = some (.interface ms)) (hn : P.underlying tn = some (.int k)) (hinfo : P.info? tn = some i) (hcomp : i.comparable = true) :
    (binOp .eql ti (.iface tn (.int k a)) (.iface tn (.int k b))).run P w = .ok (.bool (a == b)) w := by
  simp only [binOp]
  simp [Op.equal, Op.maxDepth, eqIn_iface_int w 9998 a b hi hn hinfo hcomp]
theorem errnoComp : (Tryd.prog.info? 22).map (·.comparable) = some true := by kernel_rfl
theorem eq_errno (a b : Int) (w : World) : (binOp .eql 26 (.iface 22 (.int .i64 a)) (.iface 22 (.int .i64 b))).run Tryd.prog w = .ok (.bool (a == b)) w := by
  obtain ⟨i, hi, hc⟩ := Option.map_eq_some_iff.1 errnoComp
  exact eq_iface_int w a b Tryd.underlying26 Tryd.underlying22 hi hc
theorem eq_fault_errno (x y : Value) (w : World) : (binOp .eql 26 (.iface 46 x) (.iface 22 y)).run Tryd.prog w = .ok (.bool false) w :=
  run_eql_iface_types (P := Tryd.prog) 46 22 x y Tryd.underlying26 (by decide) w

/-! ### closed facts -/
theorem typeOf_errno (v : Value) (w : World) : (Extern.ReflectliteType.typeOf #[.iface 22 v]).run Tryd.prog w = .ok (.iface 82 (.agg #[.pointer (some ⟨4, 22, none⟩)])) w := by kernel_rfl
theorem typeOf_fault (v : Value) (w : World) : (Extern.ReflectliteType.typeOf #[.iface 46 v]).run Tryd.prog w = .ok (.iface 82 (.agg #[.pointer (some ⟨4, 46, none⟩)])) w := by kernel_rfl
def compF : Array Value → Sem Value := Extern.ReflectliteType.method fun t => do Extern.Rtype.noPackHeld "Comparable" t; pure (.bool (← typeInfo t).comparable)
theorem comparable_errno (w : World) : (compF #[.agg #[.pointer (some ⟨4, 22, none⟩)]]).run Tryd.prog w = .ok (.bool true) w := by kernel_rfl
theorem method_comparable (v : Value) (w : World) : (Go.method 242 82 v "Comparable").run Tryd.prog w = .ok (76, v) w := by kernel_rfl
theorem noIs_errno (v : Value) (xT : TypeId) (w : World) : (Instr.typeAssert (.iface 22 v) xT 93 true).run Tryd.prog w = .ok (.tuple #[.nilIface, .bool false]) w := run_typeAssert_lacksB Tryd.underlying93 (by kernel_rfl) (by kernel_rfl) v xT w
theorem noIs_fault (v : Value) (xT : TypeId) (w : World) : (Instr.typeAssert (.iface 46 v) xT 93 true).run Tryd.prog w = .ok (.tuple #[.nilIface, .bool false]) w := run_typeAssert_lacksB Tryd.underlying93 (by kernel_rfl) (by kernel_rfl) v xT w
theorem noUn_errno (v : Value) (xT : TypeId) (w : World) : (Instr.typeAssert (.iface 22 v) xT 89 true).run Tryd.prog w = .ok (.tuple #[.nilIface, .bool false]) w := run_typeAssert_lacksB Tryd.underlying89 (by kernel_rfl) (by kernel_rfl) v xT w
theorem noUns_errno (v : Value) (xT : TypeId) (w : World) : (Instr.typeAssert (.iface 22 v) xT 90 true).run Tryd.prog w = .ok (.tuple #[.nilIface, .bool false]) w := run_typeAssert_lacksB Tryd.underlying90 (by kernel_rfl) (by kernel_rfl) v xT w
theorem un_fault (v : Value) (xT : TypeId) (w : World) : (Instr.typeAssert (.iface 46 v) xT 89 true).run Tryd.prog w = .ok (.tuple #[.iface 46 v, .bool true]) w := run_typeAssert_hasB Tryd.underlying89 (by kernel_rfl) v xT w
theorem method_unwrap (v : Value) (w : World) : (Go.method 242 46 v "Unwrap").run Tryd.prog w = .ok (17, v) w := by kernel_rfl

/-- What stands at the chain's next place is no nil. -/
theorem Err.form {w : World} {e : Int} {l : List (ByteArray × Int)} {v : Value} (h : Err w e l v) : ∃ (t : TypeId) (x : Value), v = .iface t x := by
  cases l with
  | nil => exact ⟨_, _, h⟩
  | cons s l => obtain ⟨b, u, rfl, _⟩ := h; exact ⟨_, _, rfl⟩

def BoolIs (w : World) (x : Bool) (r : Ending) (w' : World) : Prop := r = .returned (.bool x) ∧ w = w'

theorem is_err {w : World} {e : Int} {l : List (ByteArray × Int)} {v : Value} (t : Int) (h : Err w e l v) : Calls Tryd.prog 33 #[v, .iface 22 (.int .i64 t), .bool true] w (BoolIs w (e == t)) := by
  have H := Lib.hid h
  clear h
  have q1 := eq_errno
  have q2 := eq_fault_errno
  have nE := noIs_errno
  have nF := noIs_fault
  have uE := noUn_errno
  have vE := noUns_errno
  have uF := un_fault
  have mU := method_unwrap
  go_enter Tryd.func33, Tryd.ntmps33
  go_wp2_with fail
  go_loopg [0] l.length (fun k u wr => w = wr ∧ ∃ l' : List (ByteArray × Int), l'.length = k ∧ Err w e l' u)
  case atStart => exact ⟨rfl, l, rfl, H.out⟩
  case round =>
    clear H
    obtain ⟨rfl, l', hk, hm⟩ := hrel
    have HK := Lib.hid hk
    clear hk
    cases l' with
    | nil =>
      obtain rfl : _ = _ := hm
      cases ht : (e == t) with
      | true =>
        go_wp2
        go_ret
        exact ⟨rfl, rfl⟩
      | false =>
        go_wp2
        go_ret
        exact ⟨rfl, rfl⟩
    | cons s l2 =>
      obtain ⟨b, u, rfl, hlt, h0, h1, h2, hr⟩ := hm
      obtain ⟨tt, x, rfl⟩ := hr.form
      have HR := Lib.hid hr
      clear hr
      go_wp2_with fail
      refine (unwrap_some b _ _ h2).mono ?_
      rintro r w' ⟨rfl, rfl⟩
      go_wp2_with fail
      go_roundg l2.length
      case rel => exact ⟨rfl, l2, rfl, HR.out⟩
      case measure => have := HK.out; simp at this; omega

theorem eIs_err {w : World} {e : Int} {l : List (ByteArray × Int)} {v : Value} (t : Int) (h : Err w e l v) : Calls Tryd.prog 23 #[v, .iface 22 (.int .i64 t)] w (BoolIs w (e == t)) := by
  obtain ⟨tt, x, rfl⟩ := h.form
  have H := Lib.hid h
  clear h
  have h8 := @run_callFunc_extern Tryd.prog 32 _ Extern.ReflectliteType.typeOf Tryd.func32 (by kernel_rfl) (by kernel_rfl) (by kernel_rfl) (by kernel_rfl)
  have h32 := @run_callFunc_extern Tryd.prog 76 _ compF Tryd.func76 (by kernel_rfl) (by kernel_rfl) (by kernel_rfl) (by kernel_rfl)
  have tT := typeOf_errno
  have cT := comparable_errno
  have mR := method_comparable
  go_enter Tryd.func23, Tryd.ntmps23
  go_wp2_with (go_at_call 33; refine (is_err t H.out).mono ?_; rintro r w' ⟨rfl, rfl⟩)
  go_ret
  exact ⟨rfl, rfl⟩

theorem is_nil (t : Int) (w : World) : Calls Tryd.prog 15 #[.nilIface, .int .i64 t] w (BoolIs w false) := by
  go_enter Tryd.func15, Tryd.ntmps15
  go_wp2
  go_ret
  exact ⟨rfl, rfl⟩
theorem fIs_err {w : World} {e : Int} {l : List (ByteArray × Int)} {v : Value} (t : Int) (h : Err w e l v) : Calls Tryd.prog 15 #[v, .int .i64 t] w (BoolIs w (!(t == 0) && (e == t))) := by
  obtain ⟨tt, x, rfl⟩ := h.form
  have H := Lib.hid h
  clear h
  cases ht : (t == 0) with
  | true =>
    have ht' : (t != 0) = false := by simp [bne, ht]
    go_enter Tryd.func15, Tryd.ntmps15
    go_wp2
    go_ret
    exact ⟨rfl, rfl⟩
  | false =>
    have ht' : (t != 0) = true := by simp [bne, ht]
    go_enter Tryd.func15, Tryd.ntmps15
    go_wp2_with (go_at_call 23; refine (eIs_err t H.out).mono ?_; rintro r w' ⟨rfl, rfl⟩)
    go_ret
    exact ⟨rfl, rfl⟩
end Go.Proofs.YtppanjdhfecmpaaDoor
