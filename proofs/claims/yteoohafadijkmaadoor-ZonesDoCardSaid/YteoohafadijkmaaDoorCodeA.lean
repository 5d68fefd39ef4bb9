/-
  What errors.As answers of an error that is a bare code, at a target that is a pointer to a code; and so fault.Code. (For a program without the chain of faults.)
-/
import Derived.Test.YteoohafadijkmaaDoorChecked
import Derived.WalkKit
import Derived.LaidEql
import Derived.Stop.Asserts
import Derived.RowKitTokens
import Derived.Below
import Derived.Outline
import Derived.Lib.Hide
import Derived.Deep.LoopGhost
namespace Go.Proofs.YteoohafadijkmaaDoor
open Go.RowKit Go.Extern.Stop Go.Stop Go.Extern

/-! ### the model's entries by names that a walk does not open -/
def vOfF : Array Value → Sem Value := fun args => ReflectliteValue.unpack (args.getD 0 (.tuple #[]))
def vTypeF : Array Value → Sem Value := ReflectliteValue.methodAny (ReflectliteValue.valueError "reflectlite.Value.Type" 0) fun t _ _ _ => ReflectliteType.toType t
def vIsNilF : Array Value → Sem Value := ReflectliteValue.method (ReflectliteValue.valueError "reflectlite.Value.IsNil" 0) ReflectliteValue.isNil
def vElemF : Array Value → Sem Value := ReflectliteValue.method (ReflectliteValue.valueError "reflectlite.Value.Elem" 0) ReflectliteValue.elem
def vSetF : Array Value → Sem Value := ReflectliteValue.set
def rtElemF : Array Value → Sem Value := ReflectliteType.method ReflectliteType.elem
def rtImplF : Array Value → Sem Value := ReflectliteType.relation "Implements" ReflectliteType.implements_
def rtAssignF : Array Value → Sem Value := ReflectliteType.relation "AssignableTo" ReflectliteType.assignableTo
def tOfF : Array Value → Sem Value := ReflectliteType.typeOf
def kindF : Array Value → Sem Value := ReflectliteType.abiMethod fun t => do pure (.int .u8 (← Rtype.kind t))

/-- The handle of a type. -/
abbrev hnd (t : Nat) : Value := .agg #[.pointer (some ⟨1, t, none⟩)]
/-- The Value of a *Errno that lies at a; the Value of an Errno there; that of an Errno that may be set. -/
abbrev valP (a : Addr) : Value := .agg #[.pointer (some ⟨1, 63, none⟩), .pointer (some a), .int .u64 150]
abbrev valE (a : Addr) : Value := .agg #[.pointer (some ⟨1, 30, none⟩), .pointer (some a), .int .u64 130]
abbrev valS (a : Addr) : Value := .agg #[.pointer (some ⟨1, 30, none⟩), .pointer (some a), .int .u64 386]

theorem e_typeOfE (v : Value) (w : World) : (tOfF #[.iface 30 v]).run Tryd.prog w = .ok (.iface 85 (hnd 30)) w := by kernel_rfl
theorem e_assignE (w : World) : (rtAssignF #[hnd 30, .iface 85 (hnd 30)]).run Tryd.prog w = .ok (.bool true) w := by kernel_rfl
theorem e_implE (w : World) : (rtImplF #[hnd 30, .iface 85 (hnd 26)]).run Tryd.prog w = .ok (.bool true) w := by kernel_rfl
theorem e_elemP (w : World) : (rtElemF #[hnd 63]).run Tryd.prog w = .ok (.iface 85 (hnd 30)) w := by kernel_rfl
theorem e_kindP (w : World) : (kindF #[.pointer (some ⟨1, 63, none⟩)]).run Tryd.prog w = .ok (.int .u8 22) w := by kernel_rfl
theorem e_kindE (w : World) : (kindF #[.pointer (some ⟨1, 30, none⟩)]).run Tryd.prog w = .ok (.int .u8 2) w := by kernel_rfl
theorem e_mKind (h : Value) (w : World) : (Go.method 227 85 (.agg #[h]) "Kind").run Tryd.prog w = .ok (64, h) w := by kernel_rfl
theorem e_mElem (h : Value) (w : World) : (Go.method 227 85 (.agg #[h]) "Elem").run Tryd.prog w = .ok (74, .agg #[h]) w := by kernel_rfl
theorem e_mImpl (h : Value) (w : World) : (Go.method 227 85 (.agg #[h]) "Implements").run Tryd.prog w = .ok (75, .agg #[h]) w := by kernel_rfl
theorem e_mAssign (h : Value) (w : World) : (Go.method 227 85 (.agg #[h]) "AssignableTo").run Tryd.prog w = .ok (72, .agg #[h]) w := by kernel_rfl
theorem e_valueOfP (t : Addr) (w : World) : (vOfF #[.iface 63 (.pointer (some t))]).run Tryd.prog w = .ok (valP ⟨w.heap.size, 0, none⟩) (w.alloc (.cells #[.pointer (some t)] 63)) := by kernel_rfl
theorem e_valueOfE (n : Int) (w : World) : (vOfF #[.iface 30 (.int .i64 n)]).run Tryd.prog w = .ok (valE ⟨w.heap.size, 0, none⟩) (w.alloc (.cells #[.int .i64 n] 30)) := by kernel_rfl
theorem e_typeP (a : Addr) (w : World) : (vTypeF #[valP a]).run Tryd.prog w = .ok (.iface 85 (hnd 63)) w := by kernel_rfl

/-! ### the entries that read or write memory -/
theorem e_partsP (a : Addr) (w : World) : (ReflectliteValue.parts (valP a)).run Tryd.prog w = .ok (some (63, a, 150)) w := by kernel_rfl
theorem e_partsE (a : Addr) (w : World) : (ReflectliteValue.parts (valE a)).run Tryd.prog w = .ok (some (30, a, 130)) w := by kernel_rfl
theorem e_partsS (a : Addr) (w : World) : (ReflectliteValue.parts (valS a)).run Tryd.prog w = .ok (some (30, a, 386)) w := by kernel_rfl
theorem e_isNil (a p : Addr) (W : World) (ha : W.cell? a = some (.pointer (some p))) : (vIsNilF #[valP a]).run Tryd.prog W = .ok (.bool false) W := by
  show Sem.run Tryd.prog ((ReflectliteValue.parts (valP a)) >>= _) W = _
  simp only [Sem.run_bind, e_partsP, Result.andThen]
  simp [ReflectliteValue.isNil, loadVar, isAgg, underlying, Tryd.underlying63, ha, Result.andThen]
theorem e_elemOf (w : World) : (Rtype.elem? 63).run Tryd.prog w = .ok (some 30) w := by kernel_rfl
theorem e_mk (p : Addr) (w : World) : (ReflectliteValue.mk 30 p ReflectliteValue.flagAddr).run Tryd.prog w = .ok (valS p) w := by kernel_rfl
theorem e_elemV (a p : Addr) (W : World) (ha : W.cell? a = some (.pointer (some p))) : (vElemF #[valP a]).run Tryd.prog W = .ok (valS p) W := by
  show Sem.run Tryd.prog ((ReflectliteValue.parts (valP a)) >>= _) W = _
  simp only [Sem.run_bind, e_partsP, Result.andThen]
  simp [ReflectliteValue.elem, loadVar, isAgg, underlying, Tryd.underlying63, ha, Result.andThen, e_elemOf, e_mk]
theorem e_direct (w : World) : (Rtype.directlyAssignable 30 30).run Tryd.prog w = .ok true w := by kernel_rfl
theorem e_set (t b : Addr) (n : Int) (old : Value) (W : World) (hb : W.cell? b = some (.int .i64 n)) (ht : W.cell? t = some old) (hf : W.frozen? t = false) :
    (vSetF #[valS t, valE b]).run Tryd.prog W = .ok (.tuple #[]) (W.setCell t (.int .i64 n)) := by
  show Sem.run Tryd.prog ((ReflectliteValue.parts (valS t)) >>= fun q => (ReflectliteValue.parts (valE b)) >>= _) W = _
  simp only [Sem.run_bind, e_partsS, e_partsE, Result.andThen]
  simp [ReflectliteValue.flagAddr, loadVar, isAgg, underlying, Tryd.underlying30, hb, Result.andThen, e_direct, storeVar, Value.cells, storeCells, Addr.add]
  rw [run_store Tryd.prog W t _ _ (by rfl)]
  simp [ht, hf]

theorem lt_of_cell {w : World} {p : Addr} {v : Value} (h : w.cell? p = some v) : p.block < w.heap.size := World.block_lt_of_cell? w p h

/-- errors.as at the chain: the world behind it. -/
def asWorld (w : World) (a t : Addr) (e : Int) : World :=
  ((w.alloc (.cells #[.pointer (some ⟨1, 63, none⟩), .pointer (some a), .int .u64 150] 69)).alloc (.cells #[.int .i64 e] 30)).setCell t (.int .i64 e)
def AsIs (w : World) (a t : Addr) (e : Int) (r : Ending) (w' : World) : Prop := r = .returned (.bool true) ∧ w' = asWorld w a t e

set_option maxHeartbeats 1000000 in
theorem as_errno {w : World} (e : Int) (a t : Addr) (old : Value) (ha : w.cell? a = some (.pointer (some t))) (ht : w.cell? t = some old) (hf : w.frozen? t = false) :
    Calls Tryd.prog 40 #[.iface 30 (.int .i64 e), .iface 63 (.pointer (some t)), valP a, .iface 85 (hnd 30)] w (AsIs w a t e) := by
  have hal := lt_of_cell ha
  have htl := lt_of_cell ht
  have h32 := @run_callFunc_extern Tryd.prog 47 _ tOfF Tryd.func47 (by kernel_rfl) (by kernel_rfl) (by kernel_rfl) (by kernel_rfl)
  have h75 := @run_callFunc_extern Tryd.prog 72 _ rtAssignF Tryd.func72 (by kernel_rfl) (by kernel_rfl) (by kernel_rfl) (by kernel_rfl)
  have h37 := @run_callFunc_extern Tryd.prog 48 _ vElemF Tryd.func48 (by kernel_rfl) (by kernel_rfl) (by kernel_rfl) (by kernel_rfl)
  have h38 := @run_callFunc_extern Tryd.prog 49 _ vSetF Tryd.func49 (by kernel_rfl) (by kernel_rfl) (by kernel_rfl) (by kernel_rfl)
  have h28 := @run_callFunc_extern Tryd.prog 37 _ vOfF Tryd.func37 (by kernel_rfl) (by kernel_rfl) (by kernel_rfl) (by kernel_rfl)
  have k1 := e_typeOfE
  have k3 := e_assignE
  have k5 := e_mAssign
  have k6 := e_valueOfE
  have kE := e_elemV a t (w.alloc (.cells #[.pointer (some ⟨1, 63, none⟩), .pointer (some a), .int .u64 150] 69)) (by rw [World.cell?_alloc_lt _ _ a hal]; exact ha)
  have kS := e_set t ⟨w.heap.size + 1, 0, none⟩ e old ((w.alloc (.cells #[.pointer (some ⟨1, 63, none⟩), .pointer (some a), .int .u64 150] 69)).alloc (.cells #[.int .i64 e] 30))
    (by rw [World.cell?_alloc_at _ _ _ _ (by simp)]; rfl)
    (by rw [World.cell?_alloc_lt _ _ t (by simp; omega), World.cell?_alloc_lt _ _ t htl]; exact ht)
    (by rw [World.frozen?_alloc_old _ _ t (by simp; omega), World.frozen?_alloc_old _ _ t (Nat.ne_of_lt htl)]; exact hf)
  clear ha ht hf
  go_enter Tryd.func40, Tryd.ntmps40
  go_wp2_with fail
  go_loopg [0] 0 (fun _ u wr => w.alloc (.cells #[.pointer (some ⟨1, 63, none⟩), .pointer (some a), .int .u64 150] 69) = wr ∧ u = .iface 30 (.int .i64 e))
  case atStart => exact ⟨rfl, rfl⟩
  case round =>
    obtain ⟨rfl, rfl⟩ := hrel
    go_wp2
    go_ret
    exact ⟨rfl, rfl⟩

/-- The one package variable that errors.As reads. -/
def Gl (w : World) : Prop := w.cell? ⟨0, 0, none⟩ = some (.iface 85 (hnd 26))
theorem Gl.below {w w' : World} (h : Gl w) (hb : Below w.heap.size w w') : Gl w' := (hb.cell (p := ⟨0, 0, none⟩) (lt_of_cell h)).trans h

def AsDone (w : World) (t : Addr) (e : Int) (r : Ending) (w' : World) : Prop :=
  r = .returned (.bool true) ∧ w'.cell? t = some (.int .i64 e) ∧ ∀ B, B ≤ t.block → B ≤ w.heap.size → Below B w w'

theorem asWorld_below {w : World} {a t : Addr} {e : Int} {B : Nat} (h1 : B ≤ t.block) (h2 : B ≤ w.heap.size) : Below B w (asWorld w a t e) :=
  (((Below.refl B w).alloc h2 _).alloc (by simp; omega) _).setCell h1 _
theorem asWorld_cell {w : World} {a t : Addr} {e : Int} {old : Value} (ht : w.cell? t = some old) : (asWorld w a t e).cell? t = some (.int .i64 e) := by
  have htl := lt_of_cell ht
  unfold asWorld
  refine World.cell?_setCell_same _ _ _ (u := old) ?_
  rw [World.cell?_alloc_lt _ _ t (by simp; omega), World.cell?_alloc_lt _ _ t htl]; exact ht

theorem as_nil (t : Value) (w : World) : Calls Tryd.prog 24 #[.nilIface, t] w fun r w' => r = .returned (.bool false) ∧ w = w' := by
  go_enter Tryd.func24, Tryd.ntmps24
  go_wp2
  go_ret
  exact ⟨rfl, rfl⟩

set_option maxHeartbeats 1000000 in
theorem eAs_errno {w : World} (e : Int) (t : Addr) (old : Value) (hg : Gl w) (ht : w.cell? t = some old) (hf : w.frozen? t = false) :
    Calls Tryd.prog 24 #[.iface 30 (.int .i64 e), .iface 63 (.pointer (some t))] w (AsDone w t e) := by
  have htl := lt_of_cell ht
  have hgl := lt_of_cell hg
  have h28 := @run_callFunc_extern Tryd.prog 37 _ vOfF Tryd.func37 (by kernel_rfl) (by kernel_rfl) (by kernel_rfl) (by kernel_rfl)
  have h29 := @run_callFunc_extern Tryd.prog 38 _ vTypeF Tryd.func38 (by kernel_rfl) (by kernel_rfl) (by kernel_rfl) (by kernel_rfl)
  have h30 := @run_callFunc_extern Tryd.prog 39 _ vIsNilF Tryd.func39 (by kernel_rfl) (by kernel_rfl) (by kernel_rfl) (by kernel_rfl)
  have h66 := @run_callFunc_extern Tryd.prog 64 _ kindF Tryd.func64 (by kernel_rfl) (by kernel_rfl) (by kernel_rfl) (by kernel_rfl)
  have h77 := @run_callFunc_extern Tryd.prog 74 _ rtElemF Tryd.func74 (by kernel_rfl) (by kernel_rfl) (by kernel_rfl) (by kernel_rfl)
  have h78 := @run_callFunc_extern Tryd.prog 75 _ rtImplF Tryd.func75 (by kernel_rfl) (by kernel_rfl) (by kernel_rfl) (by kernel_rfl)
  have k1 := e_valueOfP
  have k2 := e_typeP
  have k3 := e_mKind
  have k4 := e_kindP
  have k5 := e_kindE
  have k6 := e_mElem
  have k7 := e_elemP
  have k8 := e_mImpl
  have k9 := e_implE
  have kN := e_isNil ⟨w.heap.size, 0, none⟩ t ((w.alloc (.cells #[.pointer (some t)] 63)).alloc (.cells #[.pointer (some ⟨1, 63, none⟩), .pointer (some ⟨w.heap.size, 0, none⟩), .int .u64 150] 69)) (by simp)
  have hg2 : ((w.alloc (.cells #[.pointer (some t)] 63)).alloc (.cells #[.pointer (some ⟨1, 63, none⟩), .pointer (some ⟨w.heap.size, 0, none⟩), .int .u64 150] 69)).cell? ⟨0, 0, none⟩ = some (.iface 85 (hnd 26)) := by
    rw [World.cell?_alloc_lt _ _ ⟨0, 0, none⟩ (by simp), World.cell?_alloc_lt _ _ ⟨0, 0, none⟩ hgl]; exact hg
  have HB := Lib.hid (((Below.refl w.heap.size w).alloc (Nat.le_refl _) (.cells #[.pointer (some t)] 63)).alloc (by simp) (.cells #[.pointer (some ⟨1, 63, none⟩), .pointer (some ⟨w.heap.size, 0, none⟩), .int .u64 150] 69))
  have HT := Lib.hid ((HB.out.cell (p := t) htl).trans ht)
  have HF := Lib.hid ((HB.out.frozen (p := t) htl).trans hf)
  have HA : Hid (((w.alloc (.cells #[.pointer (some t)] 63)).alloc (.cells #[.pointer (some ⟨1, 63, none⟩), .pointer (some ⟨w.heap.size, 0, none⟩), .int .u64 150] 69)).cell? ⟨w.heap.size, 0, none⟩ = some (.pointer (some t))) := Lib.hid (by simp)
  clear ht hf hg
  go_enter Tryd.func24, Tryd.ntmps24
  go_wp2_with (go_at_call 40; refine (as_errno e _ t old HA.out HT.out HF.out).mono ?_; rintro r w' ⟨rfl, rfl⟩)
  go_ret
  refine ⟨rfl, asWorld_cell HT.out, fun B h1 h2 => ?_⟩
  exact (HB.out.mono h2).trans (asWorld_below h1 (by simp; omega))

def CodeIs (w : World) (e : Int) (r : Ending) (w' : World) : Prop := r = .returned (.int .i64 e) ∧ Below w.heap.size w w'

theorem code_nil (w : World) : Calls Tryd.prog 7 #[.nilIface] w (CodeIs w 0) := by
  go_enter Tryd.func7, Tryd.ntmps7
  go_wp2_with (go_at_call 24; refine (as_nil _ _).mono ?_; rintro r w' ⟨rfl, rfl⟩)
  go_ret
  exact ⟨rfl, (Below.refl _ _).alloc (Nat.le_refl _) _⟩

theorem code_errno {w : World} (e : Int) (hg : Gl w) : Calls Tryd.prog 7 #[.iface 30 (.int .i64 e)] w (CodeIs w e) := by
  have HB := Lib.hid ((Below.refl w.heap.size w).alloc (Nat.le_refl _) (.cells #[.int .i64 0] 30))
  have HG := Lib.hid (hg.below HB.out)
  clear hg
  go_enter Tryd.func7, Tryd.ntmps7
  go_wp2_with (go_at_call 24; refine (eAs_errno e ⟨w.heap.size, 0, none⟩ (.int .i64 0) HG.out (by simp) (by simp)).mono ?_; rintro r w' ⟨rfl, hc, hb⟩; have HX := Lib.hid hb; clear hb)
  go_ret
  exact ⟨rfl, HB.out.trans (HX.out _ (Nat.le_refl _) (by simp))⟩

/-- An error that is a code, or none (0). -/
def errV (e : Int) : Value := if e = 0 then .nilIface else .iface 30 (.int .i64 e)
theorem code_is {w : World} (e : Int) (hg : Gl w) : Calls Tryd.prog 7 #[errV e] w (CodeIs w e) := by
  unfold errV
  by_cases h : e = 0
  · rw [if_pos h]; subst h; exact code_nil w
  · rw [if_neg h]; exact code_errno e hg
end Go.Proofs.YteoohafadijkmaaDoor
