/-
  What errors.As answers of an error that is a bare code, at a target that is a pointer to a code; and so fault.Code. (For a program without the chain of faults.)
  The landed device's calls as one bundle of contracts; acts in memory; large.
-/
import Derived.Test.YthmpimjmajoimaaGreatDoorChecked
import Derived.WalkKit
import Derived.LaidEql
import Derived.Stop.Asserts
import Derived.RowKitTokens
import Derived.Below
import Derived.Outline
import Derived.Lib.Hide
import Derived.Deep.LoopGhost
import Derived.Test.YthmpimjmajoimaaGreatDoorSm09
namespace Go.Proofs.YthmpimjmajoimaaGreatDoor
open Go.RowKit Go.Extern.Stop Go.Stop Go.Extern

/-! ### the model's entries by names that a walk does not open -/
def vOfF : Array Value → Sem Value := fun args => ReflectliteValue.unpack (args.getD 0 (.tuple #[]))
def vTypeF : Array Value → Sem Value := ReflectliteValue.methodAny (ReflectliteValue.valueError "reflectlite.Value.Type" 0) fun t _ _ _ => ReflectliteType.toType t
def vIsNilF : Array Value → Sem Value := ReflectliteValue.method (ReflectliteValue.valueError "reflectlite.Value.IsNil" 0) ReflectliteValue.isNil
def vElemF : Array Value → Sem Value := ReflectliteValue.method (ReflectliteValue.valueError "reflectlite.Value.Elem" 0) ReflectliteValue.elem
def vSetF : Array Value → Sem Value := ReflectliteValue.set
def rtElemF : Array Value → Sem Value := ReflectliteType.method ReflectliteType.elem
def rtImplF : Array Value → Sem Value := ReflectliteType.relation "Implements" ReflectliteType.implements_
def rtAssignF : Array Value → Sem Value := ReflectliteType.relation "AssignableTo" ReflectliteType.assignableTo
def tOfF : Array Value → Sem Value := ReflectliteType.typeOf
def kindF : Array Value → Sem Value := ReflectliteType.abiMethod fun t => do pure (.int .u8 (← Rtype.kind t))

/-- The handle of a type. -/
abbrev hnd (t : Nat) : Value := .agg #[.pointer (some ⟨1, t, none⟩)]
/-- The Value of a *Errno that lies at a; the Value of an Errno there; that of an Errno that may be set. -/
abbrev valP (a : Addr) : Value := .agg #[.pointer (some ⟨1, 86, none⟩), .pointer (some a), .int .u64 150]
abbrev valE (a : Addr) : Value := .agg #[.pointer (some ⟨1, 31, none⟩), .pointer (some a), .int .u64 130]
abbrev valS (a : Addr) : Value := .agg #[.pointer (some ⟨1, 31, none⟩), .pointer (some a), .int .u64 386]

theorem e_typeOfE (v : Value) (w : World) : (tOfF #[.iface 31 v]).run Tryz.prog w = .ok (.iface 170 (hnd 31)) w := by kernel_rfl
theorem e_assignE (w : World) : (rtAssignF #[hnd 31, .iface 170 (hnd 31)]).run Tryz.prog w = .ok (.bool true) w := by kernel_rfl
theorem e_implE (w : World) : (rtImplF #[hnd 31, .iface 170 (hnd 27)]).run Tryz.prog w = .ok (.bool true) w := by kernel_rfl
theorem e_elemP (w : World) : (rtElemF #[hnd 86]).run Tryz.prog w = .ok (.iface 170 (hnd 31)) w := by kernel_rfl
theorem e_kindP (w : World) : (kindF #[.pointer (some ⟨1, 86, none⟩)]).run Tryz.prog w = .ok (.int .u8 22) w := by kernel_rfl
theorem e_kindE (w : World) : (kindF #[.pointer (some ⟨1, 31, none⟩)]).run Tryz.prog w = .ok (.int .u8 2) w := by kernel_rfl
theorem e_mKind (h : Value) (w : World) : (Go.method 354 170 (.agg #[h]) "Kind").run Tryz.prog w = .ok (157, h) w := by kernel_rfl
theorem e_mElem (h : Value) (w : World) : (Go.method 354 170 (.agg #[h]) "Elem").run Tryz.prog w = .ok (169, .agg #[h]) w := by kernel_rfl
theorem e_mImpl (h : Value) (w : World) : (Go.method 354 170 (.agg #[h]) "Implements").run Tryz.prog w = .ok (170, .agg #[h]) w := by kernel_rfl
theorem e_mAssign (h : Value) (w : World) : (Go.method 354 170 (.agg #[h]) "AssignableTo").run Tryz.prog w = .ok (167, .agg #[h]) w := by kernel_rfl
theorem e_valueOfP (t : Addr) (w : World) : (vOfF #[.iface 86 (.pointer (some t))]).run Tryz.prog w = .ok (valP ⟨w.heap.size, 0, none⟩) (w.alloc (.cells #[.pointer (some t)] 86)) := by kernel_rfl
theorem e_valueOfE (n : Int) (w : World) : (vOfF #[.iface 31 (.int .i64 n)]).run Tryz.prog w = .ok (valE ⟨w.heap.size, 0, none⟩) (w.alloc (.cells #[.int .i64 n] 31)) := by kernel_rfl
theorem e_typeP (a : Addr) (w : World) : (vTypeF #[valP a]).run Tryz.prog w = .ok (.iface 170 (hnd 86)) w := by kernel_rfl

/-! ### the entries that read or write memory -/
theorem e_partsP (a : Addr) (w : World) : (ReflectliteValue.parts (valP a)).run Tryz.prog w = .ok (some (86, a, 150)) w := by kernel_rfl
theorem e_partsE (a : Addr) (w : World) : (ReflectliteValue.parts (valE a)).run Tryz.prog w = .ok (some (31, a, 130)) w := by kernel_rfl
theorem e_partsS (a : Addr) (w : World) : (ReflectliteValue.parts (valS a)).run Tryz.prog w = .ok (some (31, a, 386)) w := by kernel_rfl
theorem e_isNil (a p : Addr) (W : World) (ha : W.cell? a = some (.pointer (some p))) : (vIsNilF #[valP a]).run Tryz.prog W = .ok (.bool false) W := by
  show Sem.run Tryz.prog ((ReflectliteValue.parts (valP a)) >>= _) W = _
  simp only [Sem.run_bind, e_partsP, Result.andThen]
  simp [ReflectliteValue.isNil, loadVar, isAgg, underlying, Tryz.underlying86, ha, Result.andThen]
theorem e_elemOf (w : World) : (Rtype.elem? 86).run Tryz.prog w = .ok (some 31) w := by kernel_rfl
theorem e_mk (p : Addr) (w : World) : (ReflectliteValue.mk 31 p ReflectliteValue.flagAddr).run Tryz.prog w = .ok (valS p) w := by kernel_rfl
theorem e_elemV (a p : Addr) (W : World) (ha : W.cell? a = some (.pointer (some p))) : (vElemF #[valP a]).run Tryz.prog W = .ok (valS p) W := by
  show Sem.run Tryz.prog ((ReflectliteValue.parts (valP a)) >>= _) W = _
  simp only [Sem.run_bind, e_partsP, Result.andThen]
  simp [ReflectliteValue.elem, loadVar, isAgg, underlying, Tryz.underlying86, ha, Result.andThen, e_elemOf, e_mk]
theorem e_direct (w : World) : (Rtype.directlyAssignable 31 31).run Tryz.prog w = .ok true w := by kernel_rfl
theorem e_set (t b : Addr) (n : Int) (old : Value) (W : World) (hb : W.cell? b = some (.int .i64 n)) (ht : W.cell? t = some old) (hf : W.frozen? t = false) :
    (vSetF #[valS t, valE b]).run Tryz.prog W = .ok (.tuple #[]) (W.setCell t (.int .i64 n)) := by
  show Sem.run Tryz.prog ((ReflectliteValue.parts (valS t)) >>= fun q => (ReflectliteValue.parts (valE b)) >>= _) W = _
  simp only [Sem.run_bind, e_partsS, e_partsE, Result.andThen]
  simp [ReflectliteValue.flagAddr, loadVar, isAgg, underlying, Tryz.underlying31, hb, Result.andThen, e_direct, storeVar, Value.cells, storeCells, Addr.add]
  rw [run_store Tryz.prog W t _ _ (by rfl)]
  simp [ht, hf]

theorem lt_of_cell {w : World} {p : Addr} {v : Value} (h : w.cell? p = some v) : p.block < w.heap.size := World.block_lt_of_cell? w p h

/-- errors.as at the chain: the world behind it. -/
def asWorld (w : World) (a t : Addr) (e : Int) : World :=
  ((w.alloc (.cells #[.pointer (some ⟨1, 86, none⟩), .pointer (some a), .int .u64 150] 133)).alloc (.cells #[.int .i64 e] 31)).setCell t (.int .i64 e)
def AsIs (w : World) (a t : Addr) (e : Int) (r : Ending) (w' : World) : Prop := r = .returned (.bool true) ∧ w' = asWorld w a t e

set_option maxHeartbeats 1000000 in
theorem as_errno {w : World} (e : Int) (a t : Addr) (old : Value) (ha : w.cell? a = some (.pointer (some t))) (ht : w.cell? t = some old) (hf : w.frozen? t = false) :
    Calls Tryz.prog 72 #[.iface 31 (.int .i64 e), .iface 86 (.pointer (some t)), valP a, .iface 170 (hnd 31)] w (AsIs w a t e) := by
  have hal := lt_of_cell ha
  have htl := lt_of_cell ht
  have h32 := @run_callFunc_extern Tryz.prog 95 _ tOfF Tryz.func95 (by kernel_rfl) (by kernel_rfl) (by kernel_rfl) (by kernel_rfl)
  have h75 := @run_callFunc_extern Tryz.prog 167 _ rtAssignF Tryz.func167 (by kernel_rfl) (by kernel_rfl) (by kernel_rfl) (by kernel_rfl)
  have h37 := @run_callFunc_extern Tryz.prog 99 _ vElemF Tryz.func99 (by kernel_rfl) (by kernel_rfl) (by kernel_rfl) (by kernel_rfl)
  have h38 := @run_callFunc_extern Tryz.prog 100 _ vSetF Tryz.func100 (by kernel_rfl) (by kernel_rfl) (by kernel_rfl) (by kernel_rfl)
  have h28 := @run_callFunc_extern Tryz.prog 69 _ vOfF Tryz.func69 (by kernel_rfl) (by kernel_rfl) (by kernel_rfl) (by kernel_rfl)
  have k1 := e_typeOfE
  have k3 := e_assignE
  have k5 := e_mAssign
  have k6 := e_valueOfE
  have kE := e_elemV a t (w.alloc (.cells #[.pointer (some ⟨1, 86, none⟩), .pointer (some a), .int .u64 150] 133)) (by rw [World.cell?_alloc_lt _ _ a hal]; exact ha)
  have kS := e_set t ⟨w.heap.size + 1, 0, none⟩ e old ((w.alloc (.cells #[.pointer (some ⟨1, 86, none⟩), .pointer (some a), .int .u64 150] 133)).alloc (.cells #[.int .i64 e] 31))
    (by rw [World.cell?_alloc_at _ _ _ _ (by simp)]; rfl)
    (by rw [World.cell?_alloc_lt _ _ t (by simp; omega), World.cell?_alloc_lt _ _ t htl]; exact ht)
    (by rw [World.frozen?_alloc_old _ _ t (by simp; omega), World.frozen?_alloc_old _ _ t (Nat.ne_of_lt htl)]; exact hf)
  clear ha ht hf
  go_enter Tryz.func72, Tryz.ntmps72
  go_wp2_with fail
  go_loopg [0] 0 (fun _ u wr => w.alloc (.cells #[.pointer (some ⟨1, 86, none⟩), .pointer (some a), .int .u64 150] 133) = wr ∧ u = .iface 31 (.int .i64 e))
  case atStart => exact ⟨rfl, rfl⟩
  case round =>
    obtain ⟨rfl, rfl⟩ := hrel
    go_wp2
    go_ret
    exact ⟨rfl, rfl⟩

/-- The one package variable that errors.As reads. -/
def Gl (w : World) : Prop := w.cell? ⟨0, 0, none⟩ = some (.iface 170 (hnd 27))
theorem Gl.below {w w' : World} (h : Gl w) (hb : Below w.heap.size w w') : Gl w' := (hb.cell (p := ⟨0, 0, none⟩) (lt_of_cell h)).trans h

def AsDone (w : World) (t : Addr) (e : Int) (r : Ending) (w' : World) : Prop :=
  r = .returned (.bool true) ∧ w'.cell? t = some (.int .i64 e) ∧ ∀ B, B ≤ t.block → B ≤ w.heap.size → Below B w w'

theorem asWorld_below {w : World} {a t : Addr} {e : Int} {B : Nat} (h1 : B ≤ t.block) (h2 : B ≤ w.heap.size) : Below B w (asWorld w a t e) :=
  (((Below.refl B w).alloc h2 _).alloc (by simp; omega) _).setCell h1 _
theorem asWorld_cell {w : World} {a t : Addr} {e : Int} {old : Value} (ht : w.cell? t = some old) : (asWorld w a t e).cell? t = some (.int .i64 e) := by
  have htl := lt_of_cell ht
  unfold asWorld
  refine World.cell?_setCell_same _ _ _ (u := old) ?_
  rw [World.cell?_alloc_lt _ _ t (by simp; omega), World.cell?_alloc_lt _ _ t htl]; exact ht

theorem as_nil (t : Value) (w : World) : Calls Tryz.prog 34 #[.nilIface, t] w fun r w' => r = .returned (.bool false) ∧ w = w' := by
  go_enter Tryz.func34, Tryz.ntmps34
  go_wp2
  go_ret
  exact ⟨rfl, rfl⟩

set_option maxHeartbeats 1000000 in
theorem eAs_errno {w : World} (e : Int) (t : Addr) (old : Value) (hg : Gl w) (ht : w.cell? t = some old) (hf : w.frozen? t = false) :
    Calls Tryz.prog 34 #[.iface 31 (.int .i64 e), .iface 86 (.pointer (some t))] w (AsDone w t e) := by
  have htl := lt_of_cell ht
  have hgl := lt_of_cell hg
  have h28 := @run_callFunc_extern Tryz.prog 69 _ vOfF Tryz.func69 (by kernel_rfl) (by kernel_rfl) (by kernel_rfl) (by kernel_rfl)
  have h29 := @run_callFunc_extern Tryz.prog 70 _ vTypeF Tryz.func70 (by kernel_rfl) (by kernel_rfl) (by kernel_rfl) (by kernel_rfl)
  have h30 := @run_callFunc_extern Tryz.prog 71 _ vIsNilF Tryz.func71 (by kernel_rfl) (by kernel_rfl) (by kernel_rfl) (by kernel_rfl)
  have h66 := @run_callFunc_extern Tryz.prog 157 _ kindF Tryz.func157 (by kernel_rfl) (by kernel_rfl) (by kernel_rfl) (by kernel_rfl)
  have h77 := @run_callFunc_extern Tryz.prog 169 _ rtElemF Tryz.func169 (by kernel_rfl) (by kernel_rfl) (by kernel_rfl) (by kernel_rfl)
  have h78 := @run_callFunc_extern Tryz.prog 170 _ rtImplF Tryz.func170 (by kernel_rfl) (by kernel_rfl) (by kernel_rfl) (by kernel_rfl)
  have k1 := e_valueOfP
  have k2 := e_typeP
  have k3 := e_mKind
  have k4 := e_kindP
  have k5 := e_kindE
  have k6 := e_mElem
  have k7 := e_elemP
  have k8 := e_mImpl
  have k9 := e_implE
  have kN := e_isNil ⟨w.heap.size, 0, none⟩ t ((w.alloc (.cells #[.pointer (some t)] 86)).alloc (.cells #[.pointer (some ⟨1, 86, none⟩), .pointer (some ⟨w.heap.size, 0, none⟩), .int .u64 150] 133)) (by simp)
  have hg2 : ((w.alloc (.cells #[.pointer (some t)] 86)).alloc (.cells #[.pointer (some ⟨1, 86, none⟩), .pointer (some ⟨w.heap.size, 0, none⟩), .int .u64 150] 133)).cell? ⟨0, 0, none⟩ = some (.iface 170 (hnd 27)) := by
    rw [World.cell?_alloc_lt _ _ ⟨0, 0, none⟩ (by simp), World.cell?_alloc_lt _ _ ⟨0, 0, none⟩ hgl]; exact hg
  have HB := Lib.hid (((Below.refl w.heap.size w).alloc (Nat.le_refl _) (.cells #[.pointer (some t)] 86)).alloc (by simp) (.cells #[.pointer (some ⟨1, 86, none⟩), .pointer (some ⟨w.heap.size, 0, none⟩), .int .u64 150] 133))
  have HT := Lib.hid ((HB.out.cell (p := t) htl).trans ht)
  have HF := Lib.hid ((HB.out.frozen (p := t) htl).trans hf)
  have HA : Hid (((w.alloc (.cells #[.pointer (some t)] 86)).alloc (.cells #[.pointer (some ⟨1, 86, none⟩), .pointer (some ⟨w.heap.size, 0, none⟩), .int .u64 150] 133)).cell? ⟨w.heap.size, 0, none⟩ = some (.pointer (some t))) := Lib.hid (by simp)
  clear ht hf hg
  go_enter Tryz.func34, Tryz.ntmps34
  go_wp2_with (go_at_call 72; refine (as_errno e _ t old HA.out HT.out HF.out).mono ?_; rintro r w' ⟨rfl, rfl⟩)
  go_ret
  refine ⟨rfl, asWorld_cell HT.out, fun B h1 h2 => ?_⟩
  exact (HB.out.mono h2).trans (asWorld_below h1 (by simp; omega))

def CodeIs (w : World) (e : Int) (r : Ending) (w' : World) : Prop := r = .returned (.int .i64 e) ∧ Below w.heap.size w w'

theorem code_nil (w : World) : Calls Tryz.prog 13 #[.nilIface] w (CodeIs w 0) := by
  go_enter Tryz.func13, Tryz.ntmps13
  go_wp2_with (go_at_call 34; refine (as_nil _ _).mono ?_; rintro r w' ⟨rfl, rfl⟩)
  go_ret
  exact ⟨rfl, (Below.refl _ _).alloc (Nat.le_refl _) _⟩

theorem code_errno {w : World} (e : Int) (hg : Gl w) : Calls Tryz.prog 13 #[.iface 31 (.int .i64 e)] w (CodeIs w e) := by
  have HB := Lib.hid ((Below.refl w.heap.size w).alloc (Nat.le_refl _) (.cells #[.int .i64 0] 31))
  have HG := Lib.hid (hg.below HB.out)
  clear hg
  go_enter Tryz.func13, Tryz.ntmps13
  go_wp2_with (go_at_call 34; refine (eAs_errno e ⟨w.heap.size, 0, none⟩ (.int .i64 0) HG.out (by simp) (by simp)).mono ?_; rintro r w' ⟨rfl, hc, hb⟩; have HX := Lib.hid hb; clear hb)
  go_ret
  exact ⟨rfl, HB.out.trans (HX.out _ (Nat.le_refl _) (by simp))⟩

/-- An error that is a code, or none (0). -/
def errV (e : Int) : Value := if e = 0 then .nilIface else .iface 31 (.int .i64 e)
theorem code_is {w : World} (e : Int) (hg : Gl w) : Calls Tryz.prog 13 #[errV e] w (CodeIs w e) := by
  unfold errV
  by_cases h : e = 0
  · rw [if_pos h]; subst h; exact code_nil w
  · rw [if_neg h]; exact code_errno e hg
end Go.Proofs.YthmpimjmajoimaaGreatDoor
namespace Go.Proofs.YthmpimjmajoimaaGreatDoor
open Go.RowKit

theorem BytF.up {F : Nat → Prop} {w w' : World} {v : Value} {xs : List Int} (h : BytF F w v xs) (hb : Below w.heap.size w w') : BytF F w' v xs := h.keep (G := fun _ => False) (Kept.of_below hb) (fun _ _ => id)
/-- The value v is a slice of these cells, within F. -/
def RowF (F : Nat → Prop) (w : World) (v : Value) (vs : List Value) : Prop := ∃ A c, v = .slice A vs.length c ∧ vs.length ≤ c ∧ RdV w w.heap.size A vs ∧ InN vs.length F A ∧ (A = none → c = 0)
theorem RowF.keep {F G : Nat → Prop} {w w' : World} {v : Value} {vs : List Value} (h : RowF F w v vs) (hk : Kept G w w') (hn : ∀ k, F k → ¬ G k) : RowF F w' v vs := by
  obtain ⟨A, c, e, hc, hr, hf, h0⟩ := h
  exact ⟨A, c, e, hc, hr.keep hk (hf.mono hn), hf, h0⟩
theorem RowF.up {F : Nat → Prop} {w w' : World} {v : Value} {vs : List Value} (h : RowF F w v vs) (hb : Below w.heap.size w w') : RowF F w' v vs := h.keep (G := fun _ => False) (Kept.of_below hb) (fun _ _ => id)
theorem RowF.mono {F G : Nat → Prop} {w : World} {v : Value} {vs : List Value} (h : RowF F w v vs) (hfg : ∀ k, F k → G k) : RowF G w v vs := by
  obtain ⟨A, c, e, hc, hr, hf, h0⟩ := h
  exact ⟨A, c, e, hc, hr, hf.mono hfg, h0⟩
theorem RowF.nil (F : Nat → Prop) (w : World) : RowF F w (.slice none 0 0) [] := ⟨none, 0, rfl, by simp, RdV.nil, (InF.none _).n, fun _ => rfl⟩
theorem kCells_len (l : List Int) : (kCells l).length = l.length := by simp [kCells]
theorem tCells_len (l : List Bool) : (tCells l).length = l.length := by simp [tCells]

/-- A number that an int holds. -/
def Wd (n : Int) : Prop := -9223372036854775808 ≤ n ∧ n ≤ 9223372036854775807
/-- What a device's calls answer, as the landed package tells it. -/
def ZMade (D : (Nat → Prop) → World → Nat → DevS → Prop) (o : Option DevS) (w : World) (r : Ending) (w' : World) : Prop :=
  match o with
  | none => r = .returned (.tuple #[.pointer none, errV 1]) ∧ Below w.heap.size w w'
  | some S => ∃ db, r = .returned (.tuple #[.pointer (some ⟨db, 0, none⟩), .nilIface]) ∧ D (fun k => w.heap.size ≤ k ∧ k < w'.heap.size) w' db S ∧ Below w.heap.size w w'
def ZDone (D : (Nat → Prop) → World → Nat → DevS → Prop) (F : Nat → Prop) (db : Nat) (S' : DevS) (v : Value) (w : World) (r : Ending) (w' : World) : Prop := r = .returned v ∧ D (grow F w w') w' db S' ∧ Kept F w w'
def ZRead (xs : List Int) (e : Int) (w : World) (r : Ending) (w' : World) : Prop := ∃ v, r = .returned (.tuple #[v, errV e]) ∧ BytN w w' v xs ∧ Below w.heap.size w w'
/-- An act's six cells. -/
def ActF (F : Nat → Prop) (w : World) (vb vk vt : Value) (x : ActS) : Prop := BytF F w vb x.B ∧ RowF F w vk (kCells x.keep) ∧ RowF F w vt (tCells x.tear)
theorem ActF.keep {F G : Nat → Prop} {w w' : World} {vb vk vt : Value} {x : ActS} (h : ActF F w vb vk vt x) (hk : Kept G w w') (hn : ∀ k, F k → ¬ G k) : ActF F w' vb vk vt x := ⟨h.1.keep hk hn, h.2.1.keep hk hn, h.2.2.keep hk hn⟩
theorem ActF.up {F : Nat → Prop} {w w' : World} {vb vk vt : Value} {x : ActS} (h : ActF F w vb vk vt x) (hb : Below w.heap.size w w') : ActF F w' vb vk vt x := ⟨h.1.up hb, h.2.1.up hb, h.2.2.up hb⟩
theorem ActF.mono {F G : Nat → Prop} {w : World} {vb vk vt : Value} {x : ActS} (h : ActF F w vb vk vt x) (hfg : ∀ k, F k → G k) : ActF G w vb vk vt x := ⟨h.1.mono hfg, h.2.1.mono hfg, h.2.2.mono hfg⟩
theorem ActF.form {F : Nat → Prop} {w : World} {vb vk vt : Value} {x : ActS} (h : ActF F w vb vk vt x) : ∃ A1 c1 A2 c2 A3 c3, vb = .slice A1 x.B.length c1 ∧ vk = .slice A2 x.keep.length c2 ∧ vt = .slice A3 x.tear.length c3 := by
  obtain ⟨⟨A1, c1, e1, _⟩, ⟨A2, c2, e2, _⟩, ⟨A3, c3, e3, _⟩⟩ := h
  rw [kCells_len] at e2
  rw [tCells_len] at e3
  exact ⟨A1, c1, A2, c2, A3, c3, e1, e2, e3⟩
def actCells (x : ActS) (vb vk vt : Value) : List Value := [.int .i64 x.Do, .int .i64 x.zone, .int .i64 x.page, vb, vk, vt]
def actV (x : ActS) (vb vk vt : Value) : Value := .agg #[.int .i64 x.Do, .int .i64 x.zone, .int .i64 x.page, vb, vk, vt]
/-- The slice of A, l.length, c reads as these acts, within F. -/
def ActsF (F : Nat → Prop) (w : World) (A : Option Addr) (l : List ActS) : Prop :=
  0 < l.length → ∃ b o : Nat, A = some ⟨b, o, none⟩ ∧ b < w.heap.size ∧ F b ∧ ∀ i (h : i < l.length), ∃ vb vk vt, ActF F w vb vk vt l[i] ∧ w.cell? ⟨b, o + i * 6, none⟩ = some (.int .i64 l[i].Do) ∧ w.cell? ⟨b, o + i * 6 + 1, none⟩ = some (.int .i64 l[i].zone) ∧
    w.cell? ⟨b, o + i * 6 + 2, none⟩ = some (.int .i64 l[i].page) ∧ w.cell? ⟨b, o + i * 6 + 3, none⟩ = some vb ∧ w.cell? ⟨b, o + i * 6 + 4, none⟩ = some vk ∧ w.cell? ⟨b, o + i * 6 + 5, none⟩ = some vt
theorem ActsF.keep {F G : Nat → Prop} {w w' : World} {A : Option Addr} {l : List ActS} (h : ActsF F w A l) (hk : Kept G w w') (hn : ∀ k, F k → ¬ G k) : ActsF F w' A l := by
  intro hp
  obtain ⟨b, o, e, hlt, hb, hx⟩ := h hp
  refine ⟨b, o, e, Nat.lt_of_lt_of_le hlt hk.size, hb, fun i hi => ?_⟩
  obtain ⟨vb, vk, vt, ha, h0, h1, h2, h3, h4, h5⟩ := hx i hi
  exact ⟨vb, vk, vt, ha.keep hk hn, hk.cell h0 (hn _ hb), hk.cell h1 (hn _ hb), hk.cell h2 (hn _ hb), hk.cell h3 (hn _ hb), hk.cell h4 (hn _ hb), hk.cell h5 (hn _ hb)⟩
theorem ActsF.up {F : Nat → Prop} {w w' : World} {A : Option Addr} {l : List ActS} (h : ActsF F w A l) (hb : Below w.heap.size w w') : ActsF F w' A l := h.keep (G := fun _ => False) (Kept.of_below hb) (fun _ _ => id)
/-- An act's numbers and bytes are such. -/
def ActOk (x : ActS) : Prop := x.page ≤ 9223372036854775807 ∧ Byt x.B ∧ ∀ n ∈ x.keep, Wd n

def longA (x : ActS) : Bool := decide (100 < x.B.length) || decide (100 < x.keep.length) || decide (100 < x.tear.length)
def largeA (l : List ActS) : Bool := decide (100 < l.length) || l.any longA
theorem large_bd {l : List ActS} (h : largeA l = false) : l.length ≤ 100 ∧ ∀ x ∈ l, x.B.length ≤ 100 ∧ x.keep.length ≤ 100 ∧ x.tear.length ≤ 100 := by
  unfold largeA at h
  simp only [Bool.or_eq_false_iff, decide_eq_false_iff_not, List.any_eq_false] at h
  refine ⟨by omega, fun x hx => ?_⟩
  have := h.2 x hx
  simp [longA] at this
  omega
end Go.Proofs.YthmpimjmajoimaaGreatDoor
