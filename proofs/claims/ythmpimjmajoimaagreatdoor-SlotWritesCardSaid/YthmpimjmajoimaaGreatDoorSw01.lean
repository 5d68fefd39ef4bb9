/-
  A law that answers true and leaves all old memory alone meets its row's post.
  What errors.As answers of an error that is a bare code, at a target that is a pointer to a code; and so fault.Code. (For a program without the chain of faults.)
  What the listed variable gives a walk (errors.errorType's one cell), and a world that meets it.
  Plain mathematics of sums of bytes.
  Plain mathematics of pages: numbers as four bytes, a page's bytes, what a page's bytes are of.
-/
import Derived.Test.YthmpimjmajoimaaGreatDoorRows
import Derived.Below
import Derived.Carry
import Derived.ChangeSame
import Derived.ChangeVars
import Derived.JoinedOf
import Derived.RowKit
import Derived.RowKitTokens
import Derived.Test.YthmpimjmajoimaaGreatDoorChecked
import Derived.WalkKit
import Derived.LaidEql
import Derived.Stop.Asserts
import Derived.Outline
import Derived.Lib.Hide
import Derived.Deep.LoopGhost
import Derived.LaidLaws
import Derived.LaidHandle
import Derived.Stop.Joined
namespace Go.Proofs.YthmpimjmajoimaaGreatDoor
open Go.ChangeShapes Go.WideShapes Go.RowKit

section
variable {H : Type} {enc : TypeId × Value → H} {P : Program}

theorem trodAll_below (hl : laidOutB P = true) {W W' : World} (hb : Below W.heap.size W W') : ∀ {ts : List TypeId} {vs : List Value} {ds : List (DataW H)} {ps : List MemPlace},
    (∀ t ∈ ts, P.readableRec t = true ∧ t < P.types.size) → DataW.TrodAll enc P W 0 (fun _ => true) true ts vs ds ps → (∀ x ∈ ps, x.block < W.heap.size) →
    DataW.TrodAll enc P W' 0 (fun b => decide (b < W.heap.size)) true ts vs ds ps
  | [], [], [], _, _, h, _ => h
  | t :: ts, v :: vs, d :: ds, ps, ht, ⟨p, q, h1, h2, hps⟩, hlt => by
    subst hps
    exact ⟨p, q, Below.trod hl (ht t (by simp)).1 (ht t (by simp)).2 h1 hb (fun x hx => hlt x (by simp [hx])),
      trodAll_below hl hb (fun u hu => ht u (by simp [hu])) h2 (fun x hx => hlt x (by simp [hx])), rfl⟩

theorem law_post {f : Func} {s : ChangeSpec} {apart : Bool} {W W' : World} {args : Array Value} {ds gs : List (DataW H)} {before : List MemPlace} {tb : TypeId}
    (hl : laidOutB P = true) (hts : ∀ t ∈ f.params.toList, P.readableRec t = true ∧ t < P.types.size) (hv : s.vars = []) (hrt : f.resultTypes = #[tb]) (htb : P.underlying tb = some .bool)
    (hW : DataW.Whole enc P f.params.toList s.vars apart W args.toList ds gs before) (hs : s.fn H (ds ++ gs) = { results := [.lit (.bool true)], args := ds })
    (hb : Below W.heap.size W W') : s.post enc P f apart true false false W args (.bool true) W' := by
  have hlt : ∀ p ∈ before, p.block < W.heap.size := fun p hp => hW.lt p hp
  have hW' := hW
  obtain ⟨p, q, hA, hV, rfl, _, _⟩ := hW
  refine ⟨ds, gs, p ++ q, [], p, [], hW', ?_, ?_, ?_, hb.frame _, fun h => by cases h⟩
  · rw [hs, hrt]
    exact trodAll_mk1 (shut_bool htb true)
  · rw [hs]
    exact trodAll_below hl hb hts hA (fun x hx => hlt x (by simp [hx]))
  · rw [hs, hv]
    rfl

end

theorem ownP : ownKnob Tryz.prog.godebug = none := by kernel_rfl
theorem laidOutP : laidOutB Tryz.prog = true := by kernel_rfl
end Go.Proofs.YthmpimjmajoimaaGreatDoor
namespace Go.Proofs.YthmpimjmajoimaaGreatDoor
open Go.RowKit Go.Extern.Stop Go.Stop Go.Extern

/-! ### the model's entries by names that a walk does not open -/
def vOfF : Array Value → Sem Value := fun args => ReflectliteValue.unpack (args.getD 0 (.tuple #[]))
def vTypeF : Array Value → Sem Value := ReflectliteValue.methodAny (ReflectliteValue.valueError "reflectlite.Value.Type" 0) fun t _ _ _ => ReflectliteType.toType t
def vIsNilF : Array Value → Sem Value := ReflectliteValue.method (ReflectliteValue.valueError "reflectlite.Value.IsNil" 0) ReflectliteValue.isNil
def vElemF : Array Value → Sem Value := ReflectliteValue.method (ReflectliteValue.valueError "reflectlite.Value.Elem" 0) ReflectliteValue.elem
def vSetF : Array Value → Sem Value := ReflectliteValue.set
def rtElemF : Array Value → Sem Value := ReflectliteType.method ReflectliteType.elem
def rtImplF : Array Value → Sem Value := ReflectliteType.relation "Implements" ReflectliteType.implements_
def rtAssignF : Array Value → Sem Value := ReflectliteType.relation "AssignableTo" ReflectliteType.assignableTo
def tOfF : Array Value → Sem Value := ReflectliteType.typeOf
def kindF : Array Value → Sem Value := ReflectliteType.abiMethod fun t => do pure (.int .u8 (← Rtype.kind t))

/-- The handle of a type. -/
abbrev hnd (t : Nat) : Value := .agg #[.pointer (some ⟨1, t, none⟩)]
/-- The Value of a *Errno that lies at a; the Value of an Errno there; that of an Errno that may be set. -/
abbrev valP (a : Addr) : Value := .agg #[.pointer (some ⟨1, 86, none⟩), .pointer (some a), .int .u64 150]
abbrev valE (a : Addr) : Value := .agg #[.pointer (some ⟨1, 31, none⟩), .pointer (some a), .int .u64 130]
abbrev valS (a : Addr) : Value := .agg #[.pointer (some ⟨1, 31, none⟩), .pointer (some a), .int .u64 386]

theorem e_typeOfE (v : Value) (w : World) : (tOfF #[.iface 31 v]).run Tryz.prog w = .ok (.iface 170 (hnd 31)) w := by kernel_rfl
theorem e_assignE (w : World) : (rtAssignF #[hnd 31, .iface 170 (hnd 31)]).run Tryz.prog w = .ok (.bool true) w := by kernel_rfl
theorem e_implE (w : World) : (rtImplF #[hnd 31, .iface 170 (hnd 27)]).run Tryz.prog w = .ok (.bool true) w := by kernel_rfl
theorem e_elemP (w : World) : (rtElemF #[hnd 86]).run Tryz.prog w = .ok (.iface 170 (hnd 31)) w := by kernel_rfl
theorem e_kindP (w : World) : (kindF #[.pointer (some ⟨1, 86, none⟩)]).run Tryz.prog w = .ok (.int .u8 22) w := by kernel_rfl
theorem e_kindE (w : World) : (kindF #[.pointer (some ⟨1, 31, none⟩)]).run Tryz.prog w = .ok (.int .u8 2) w := by kernel_rfl
theorem e_mKind (h : Value) (w : World) : (Go.method 354 170 (.agg #[h]) "Kind").run Tryz.prog w = .ok (157, h) w := by kernel_rfl
theorem e_mElem (h : Value) (w : World) : (Go.method 354 170 (.agg #[h]) "Elem").run Tryz.prog w = .ok (169, .agg #[h]) w := by kernel_rfl
theorem e_mImpl (h : Value) (w : World) : (Go.method 354 170 (.agg #[h]) "Implements").run Tryz.prog w = .ok (170, .agg #[h]) w := by kernel_rfl
theorem e_mAssign (h : Value) (w : World) : (Go.method 354 170 (.agg #[h]) "AssignableTo").run Tryz.prog w = .ok (167, .agg #[h]) w := by kernel_rfl
theorem e_valueOfP (t : Addr) (w : World) : (vOfF #[.iface 86 (.pointer (some t))]).run Tryz.prog w = .ok (valP ⟨w.heap.size, 0, none⟩) (w.alloc (.cells #[.pointer (some t)] 86)) := by kernel_rfl
theorem e_valueOfE (n : Int) (w : World) : (vOfF #[.iface 31 (.int .i64 n)]).run Tryz.prog w = .ok (valE ⟨w.heap.size, 0, none⟩) (w.alloc (.cells #[.int .i64 n] 31)) := by kernel_rfl
theorem e_typeP (a : Addr) (w : World) : (vTypeF #[valP a]).run Tryz.prog w = .ok (.iface 170 (hnd 86)) w := by kernel_rfl

/-! ### the entries that read or write memory -/
theorem e_partsP (a : Addr) (w : World) : (ReflectliteValue.parts (valP a)).run Tryz.prog w = .ok (some (86, a, 150)) w := by kernel_rfl
theorem e_partsE (a : Addr) (w : World) : (ReflectliteValue.parts (valE a)).run Tryz.prog w = .ok (some (31, a, 130)) w := by kernel_rfl
theorem e_partsS (a : Addr) (w : World) : (ReflectliteValue.parts (valS a)).run Tryz.prog w = .ok (some (31, a, 386)) w := by kernel_rfl
theorem e_isNil (a p : Addr) (W : World) (ha : W.cell? a = some (.pointer (some p))) : (vIsNilF #[valP a]).run Tryz.prog W = .ok (.bool false) W := by
  show Sem.run Tryz.prog ((ReflectliteValue.parts (valP a)) >>= _) W = _
  simp only [Sem.run_bind, e_partsP, Result.andThen]
  simp [ReflectliteValue.isNil, loadVar, isAgg, underlying, Tryz.underlying86, ha, Result.andThen]
theorem e_elemOf (w : World) : (Rtype.elem? 86).run Tryz.prog w = .ok (some 31) w := by kernel_rfl
theorem e_mk (p : Addr) (w : World) : (ReflectliteValue.mk 31 p ReflectliteValue.flagAddr).run Tryz.prog w = .ok (valS p) w := by kernel_rfl
theorem e_elemV (a p : Addr) (W : World) (ha : W.cell? a = some (.pointer (some p))) : (vElemF #[valP a]).run Tryz.prog W = .ok (valS p) W := by
  show Sem.run Tryz.prog ((ReflectliteValue.parts (valP a)) >>= _) W = _
  simp only [Sem.run_bind, e_partsP, Result.andThen]
  simp [ReflectliteValue.elem, loadVar, isAgg, underlying, Tryz.underlying86, ha, Result.andThen, e_elemOf, e_mk]
theorem e_direct (w : World) : (Rtype.directlyAssignable 31 31).run Tryz.prog w = .ok true w := by kernel_rfl
theorem e_set (t b : Addr) (n : Int) (old : Value) (W : World) (hb : W.cell? b = some (.int .i64 n)) (ht : W.cell? t = some old) (hf : W.frozen? t = false) :
    (vSetF #[valS t, valE b]).run Tryz.prog W = .ok (.tuple #[]) (W.setCell t (.int .i64 n)) := by
  show Sem.run Tryz.prog ((ReflectliteValue.parts (valS t)) >>= fun q => (ReflectliteValue.parts (valE b)) >>= _) W = _
  simp only [Sem.run_bind, e_partsS, e_partsE, Result.andThen]
  simp [ReflectliteValue.flagAddr, loadVar, isAgg, underlying, Tryz.underlying31, hb, Result.andThen, e_direct, storeVar, Value.cells, storeCells, Addr.add]
  rw [run_store Tryz.prog W t _ _ (by rfl)]
  simp [ht, hf]

theorem lt_of_cell {w : World} {p : Addr} {v : Value} (h : w.cell? p = some v) : p.block < w.heap.size := World.block_lt_of_cell? w p h

/-- errors.as at the chain: the world behind it. -/
def asWorld (w : World) (a t : Addr) (e : Int) : World :=
  ((w.alloc (.cells #[.pointer (some ⟨1, 86, none⟩), .pointer (some a), .int .u64 150] 133)).alloc (.cells #[.int .i64 e] 31)).setCell t (.int .i64 e)
def AsIs (w : World) (a t : Addr) (e : Int) (r : Ending) (w' : World) : Prop := r = .returned (.bool true) ∧ w' = asWorld w a t e

set_option maxHeartbeats 1000000 in
theorem as_errno {w : World} (e : Int) (a t : Addr) (old : Value) (ha : w.cell? a = some (.pointer (some t))) (ht : w.cell? t = some old) (hf : w.frozen? t = false) :
    Calls Tryz.prog 72 #[.iface 31 (.int .i64 e), .iface 86 (.pointer (some t)), valP a, .iface 170 (hnd 31)] w (AsIs w a t e) := by
  have hal := lt_of_cell ha
  have htl := lt_of_cell ht
  have h32 := @run_callFunc_extern Tryz.prog 95 _ tOfF Tryz.func95 (by kernel_rfl) (by kernel_rfl) (by kernel_rfl) (by kernel_rfl)
  have h75 := @run_callFunc_extern Tryz.prog 167 _ rtAssignF Tryz.func167 (by kernel_rfl) (by kernel_rfl) (by kernel_rfl) (by kernel_rfl)
  have h37 := @run_callFunc_extern Tryz.prog 99 _ vElemF Tryz.func99 (by kernel_rfl) (by kernel_rfl) (by kernel_rfl) (by kernel_rfl)
  have h38 := @run_callFunc_extern Tryz.prog 100 _ vSetF Tryz.func100 (by kernel_rfl) (by kernel_rfl) (by kernel_rfl) (by kernel_rfl)
  have h28 := @run_callFunc_extern Tryz.prog 69 _ vOfF Tryz.func69 (by kernel_rfl) (by kernel_rfl) (by kernel_rfl) (by kernel_rfl)
  have k1 := e_typeOfE
  have k3 := e_assignE
  have k5 := e_mAssign
  have k6 := e_valueOfE
  have kE := e_elemV a t (w.alloc (.cells #[.pointer (some ⟨1, 86, none⟩), .pointer (some a), .int .u64 150] 133)) (by rw [World.cell?_alloc_lt _ _ a hal]; exact ha)
  have kS := e_set t ⟨w.heap.size + 1, 0, none⟩ e old ((w.alloc (.cells #[.pointer (some ⟨1, 86, none⟩), .pointer (some a), .int .u64 150] 133)).alloc (.cells #[.int .i64 e] 31))
    (by rw [World.cell?_alloc_at _ _ _ _ (by simp)]; rfl)
    (by rw [World.cell?_alloc_lt _ _ t (by simp; omega), World.cell?_alloc_lt _ _ t htl]; exact ht)
    (by rw [World.frozen?_alloc_old _ _ t (by simp; omega), World.frozen?_alloc_old _ _ t (Nat.ne_of_lt htl)]; exact hf)
  clear ha ht hf
  go_enter Tryz.func72, Tryz.ntmps72
  go_wp2_with fail
  go_loopg [0] 0 (fun _ u wr => w.alloc (.cells #[.pointer (some ⟨1, 86, none⟩), .pointer (some a), .int .u64 150] 133) = wr ∧ u = .iface 31 (.int .i64 e))
  case atStart => exact ⟨rfl, rfl⟩
  case round =>
    obtain ⟨rfl, rfl⟩ := hrel
    go_wp2
    go_ret
    exact ⟨rfl, rfl⟩

/-- The one package variable that errors.As reads. -/
def Gl (w : World) : Prop := w.cell? ⟨0, 0, none⟩ = some (.iface 170 (hnd 27))
theorem Gl.below {w w' : World} (h : Gl w) (hb : Below w.heap.size w w') : Gl w' := (hb.cell (p := ⟨0, 0, none⟩) (lt_of_cell h)).trans h

def AsDone (w : World) (t : Addr) (e : Int) (r : Ending) (w' : World) : Prop :=
  r = .returned (.bool true) ∧ w'.cell? t = some (.int .i64 e) ∧ ∀ B, B ≤ t.block → B ≤ w.heap.size → Below B w w'

theorem asWorld_below {w : World} {a t : Addr} {e : Int} {B : Nat} (h1 : B ≤ t.block) (h2 : B ≤ w.heap.size) : Below B w (asWorld w a t e) :=
  (((Below.refl B w).alloc h2 _).alloc (by simp; omega) _).setCell h1 _
theorem asWorld_cell {w : World} {a t : Addr} {e : Int} {old : Value} (ht : w.cell? t = some old) : (asWorld w a t e).cell? t = some (.int .i64 e) := by
  have htl := lt_of_cell ht
  unfold asWorld
  refine World.cell?_setCell_same _ _ _ (u := old) ?_
  rw [World.cell?_alloc_lt _ _ t (by simp; omega), World.cell?_alloc_lt _ _ t htl]; exact ht

theorem as_nil (t : Value) (w : World) : Calls Tryz.prog 34 #[.nilIface, t] w fun r w' => r = .returned (.bool false) ∧ w = w' := by
  go_enter Tryz.func34, Tryz.ntmps34
  go_wp2
  go_ret
  exact ⟨rfl, rfl⟩

set_option maxHeartbeats 1000000 in
theorem eAs_errno {w : World} (e : Int) (t : Addr) (old : Value) (hg : Gl w) (ht : w.cell? t = some old) (hf : w.frozen? t = false) :
    Calls Tryz.prog 34 #[.iface 31 (.int .i64 e), .iface 86 (.pointer (some t))] w (AsDone w t e) := by
  have htl := lt_of_cell ht
  have hgl := lt_of_cell hg
  have h28 := @run_callFunc_extern Tryz.prog 69 _ vOfF Tryz.func69 (by kernel_rfl) (by kernel_rfl) (by kernel_rfl) (by kernel_rfl)
  have h29 := @run_callFunc_extern Tryz.prog 70 _ vTypeF Tryz.func70 (by kernel_rfl) (by kernel_rfl) (by kernel_rfl) (by kernel_rfl)
  have h30 := @run_callFunc_extern Tryz.prog 71 _ vIsNilF Tryz.func71 (by kernel_rfl) (by kernel_rfl) (by kernel_rfl) (by kernel_rfl)
  have h66 := @run_callFunc_extern Tryz.prog 157 _ kindF Tryz.func157 (by kernel_rfl) (by kernel_rfl) (by kernel_rfl) (by kernel_rfl)
  have h77 := @run_callFunc_extern Tryz.prog 169 _ rtElemF Tryz.func169 (by kernel_rfl) (by kernel_rfl) (by kernel_rfl) (by kernel_rfl)
  have h78 := @run_callFunc_extern Tryz.prog 170 _ rtImplF Tryz.func170 (by kernel_rfl) (by kernel_rfl) (by kernel_rfl) (by kernel_rfl)
  have k1 := e_valueOfP
  have k2 := e_typeP
  have k3 := e_mKind
  have k4 := e_kindP
  have k5 := e_kindE
  have k6 := e_mElem
  have k7 := e_elemP
  have k8 := e_mImpl
  have k9 := e_implE
  have kN := e_isNil ⟨w.heap.size, 0, none⟩ t ((w.alloc (.cells #[.pointer (some t)] 86)).alloc (.cells #[.pointer (some ⟨1, 86, none⟩), .pointer (some ⟨w.heap.size, 0, none⟩), .int .u64 150] 133)) (by simp)
  have hg2 : ((w.alloc (.cells #[.pointer (some t)] 86)).alloc (.cells #[.pointer (some ⟨1, 86, none⟩), .pointer (some ⟨w.heap.size, 0, none⟩), .int .u64 150] 133)).cell? ⟨0, 0, none⟩ = some (.iface 170 (hnd 27)) := by
    rw [World.cell?_alloc_lt _ _ ⟨0, 0, none⟩ (by simp), World.cell?_alloc_lt _ _ ⟨0, 0, none⟩ hgl]; exact hg
  have HB := Lib.hid (((Below.refl w.heap.size w).alloc (Nat.le_refl _) (.cells #[.pointer (some t)] 86)).alloc (by simp) (.cells #[.pointer (some ⟨1, 86, none⟩), .pointer (some ⟨w.heap.size, 0, none⟩), .int .u64 150] 133))
  have HT := Lib.hid ((HB.out.cell (p := t) htl).trans ht)
  have HF := Lib.hid ((HB.out.frozen (p := t) htl).trans hf)
  have HA : Hid (((w.alloc (.cells #[.pointer (some t)] 86)).alloc (.cells #[.pointer (some ⟨1, 86, none⟩), .pointer (some ⟨w.heap.size, 0, none⟩), .int .u64 150] 133)).cell? ⟨w.heap.size, 0, none⟩ = some (.pointer (some t))) := Lib.hid (by simp)
  clear ht hf hg
  go_enter Tryz.func34, Tryz.ntmps34
  go_wp2_with (go_at_call 72; refine (as_errno e _ t old HA.out HT.out HF.out).mono ?_; rintro r w' ⟨rfl, rfl⟩)
  go_ret
  refine ⟨rfl, asWorld_cell HT.out, fun B h1 h2 => ?_⟩
  exact (HB.out.mono h2).trans (asWorld_below h1 (by simp; omega))

def CodeIs (w : World) (e : Int) (r : Ending) (w' : World) : Prop := r = .returned (.int .i64 e) ∧ Below w.heap.size w w'

theorem code_nil (w : World) : Calls Tryz.prog 13 #[.nilIface] w (CodeIs w 0) := by
  go_enter Tryz.func13, Tryz.ntmps13
  go_wp2_with (go_at_call 34; refine (as_nil _ _).mono ?_; rintro r w' ⟨rfl, rfl⟩)
  go_ret
  exact ⟨rfl, (Below.refl _ _).alloc (Nat.le_refl _) _⟩

theorem code_errno {w : World} (e : Int) (hg : Gl w) : Calls Tryz.prog 13 #[.iface 31 (.int .i64 e)] w (CodeIs w e) := by
  have HB := Lib.hid ((Below.refl w.heap.size w).alloc (Nat.le_refl _) (.cells #[.int .i64 0] 31))
  have HG := Lib.hid (hg.below HB.out)
  clear hg
  go_enter Tryz.func13, Tryz.ntmps13
  go_wp2_with (go_at_call 34; refine (eAs_errno e ⟨w.heap.size, 0, none⟩ (.int .i64 0) HG.out (by simp) (by simp)).mono ?_; rintro r w' ⟨rfl, hc, hb⟩; have HX := Lib.hid hb; clear hb)
  go_ret
  exact ⟨rfl, HB.out.trans (HX.out _ (Nat.le_refl _) (by simp))⟩

/-- An error that is a code, or none (0). -/
def errV (e : Int) : Value := if e = 0 then .nilIface else .iface 31 (.int .i64 e)
theorem code_is {w : World} (e : Int) (hg : Gl w) : Calls Tryz.prog 13 #[errV e] w (CodeIs w e) := by
  unfold errV
  by_cases h : e = 0
  · rw [if_pos h]; subst h; exact code_nil w
  · rw [if_neg h]; exact code_errno e hg
end Go.Proofs.YthmpimjmajoimaaGreatDoor
namespace Go.Proofs.YthmpimjmajoimaaGreatDoor
open Go.ChangeShapes Go.WideShapes Go.RowKit

theorem etG : Tryz.prog.globalNamed "errors.errorType" = some 0 := by kernel_rfl
theorem rtT : (Tryz.prog.cutTypes.find? (·.1 == "internal/reflectlite.rtype")).map (·.2) = some 170 := by kernel_rfl
theorem oneRow : ((List.range 254).filter fun t => Tryz.prog.rowNamed t [101, 114, 114, 111, 114]) = [27] := by kernel_rfl
theorem ntypes : Tryz.prog.types.size = 254 := by kernel_rfl

abbrev laid1 {H : Type} : List (String × DataW H) := [("errors.errorType", Rows.laid_errors_errorType)]

theorem gl_of_laid {W : World} (h : laidMetH Tryz.prog laid1 W) : Gl W := by
  have h' : laidMet Tryz.prog [] W ∧ handlesMet Tryz.prog laid1 W := h
  obtain ⟨name, u, ty, e1, e2, e3, e4, e5⟩ := h'.2 _ (List.mem_singleton.2 rfl)
  have en : name = [101, 114, 114, 111, 114] := (Option.some.inj e1).symm
  subst en
  obtain rfl := Option.some.inj (rtT.symm.trans e2)
  have hm : ty ∈ (List.range 254).filter fun t => Tryz.prog.rowNamed t [101, 114, 114, 111, 114] := List.mem_filter.2 ⟨List.mem_range.2 (by rw [← ntypes]; exact e3), e4⟩
  rw [oneRow] at hm
  obtain rfl := List.mem_singleton.1 hm
  have hh : typeHandle Tryz.prog 27 = .pointer (some ⟨1, 27, none⟩) := by kernel_rfl
  rw [hh] at e5
  unfold Gl
  simpa using World.var?_cell etG e5 0

noncomputable def laidWorld (os : Os) : World :=
  let w0 := World.holding Tryz.prog os ⟨#[], #[], []⟩
  { w0 with heap := w0.heap.modify 0 fun
      | .cells _ t frozen => .cells #[.iface 170 (hnd 27)] t frozen
      | o => o }
theorem laidWorld_met (os : Os) (args : Array Value) : laidMetH Tryz.prog laid1 ((laidWorld os).forCall (fun _ _ => 0) ⟨#[], args, []⟩).memory :=
  laidMetH_of_parts (laidMet_nil _ _) (by kernel_rfl)
end Go.Proofs.YthmpimjmajoimaaGreatDoor
namespace Go.Proofs.YthmpimjmajoimaaGreatDoor

/-- Bytes. -/
def Byt (xs : List Int) : Prop := ∀ x ∈ xs, 0 ≤ x ∧ x ≤ 255
/-- The sum of a row. -/
def sS : List Int → Int
  | [] => 0
  | c :: r => c + sS r
/-- The sum of the sums of all beginnings. -/
def sT : List Int → Int
  | [] => 0
  | c :: r => c + (r.length : Int) * c + sT r

theorem Byt.nil : Byt [] := fun x h => by cases h
theorem Byt.app {a b : List Int} (ha : Byt a) (hb : Byt b) : Byt (a ++ b) := fun x h => by
  rcases List.mem_append.1 h with h | h
  · exact ha x h
  · exact hb x h
theorem Byt.take {a : List Int} (h : Byt a) (k : Nat) : Byt (a.take k) := fun x hx => h x (List.mem_of_mem_take hx)
theorem Byt.drop {a : List Int} (h : Byt a) (k : Nat) : Byt (a.drop k) := fun x hx => h x (List.mem_of_mem_drop hx)
theorem Byt.get {a : List Int} (h : Byt a) (k : Nat) (hk : k < a.length) : 0 ≤ a[k] ∧ a[k] ≤ 255 := h _ (List.getElem_mem hk)

theorem sS_app (a b : List Int) : sS (a ++ b) = sS a + sS b := by
  induction a with
  | nil => simp [sS]
  | cons c r ih => simp only [List.cons_append, sS, ih]; omega
theorem sT_app (a b : List Int) : sT (a ++ b) = sT a + (b.length : Int) * sS a + sT b := by
  induction a with
  | nil => simp [sS, sT]
  | cons c r ih =>
    simp only [List.cons_append, sT, sS, ih, List.length_append, Int.natCast_add, Int.add_mul, Int.mul_add]
    omega
theorem sS_one (c : Int) : sS [c] = c := by simp [sS]
theorem sT_one (c : Int) : sT [c] = c := by simp [sT]
theorem sS_bd {a : List Int} (h : Byt a) : 0 ≤ sS a ∧ sS a ≤ 255 * a.length := by
  induction a with
  | nil => simp [sS]
  | cons c r ih =>
    have h1 := ih (fun x hx => h x (List.mem_cons_of_mem _ hx))
    have h2 := h c (by simp)
    simp only [sS, List.length_cons]
    omega
theorem sT_bd {a : List Int} (h : Byt a) : 0 ≤ sT a ∧ 2 * sT a ≤ 255 * ((a.length : Int) * ((a.length : Int) + 1)) := by
  induction a with
  | nil => simp [sT]
  | cons c r ih =>
    have h1 := ih (fun x hx => h x (List.mem_cons_of_mem _ hx))
    obtain ⟨h2, h3⟩ := h c (by simp)
    have h4 : (r.length : Int) * c ≤ (r.length : Int) * 255 := Int.mul_le_mul_of_nonneg_left h3 (by omega)
    have h5 : 0 ≤ (r.length : Int) * c := Int.mul_nonneg (by omega) h2
    simp only [sT, List.length_cons, Int.natCast_add, Int.add_mul, Int.mul_add] at *
    omega
/-- What a row of n bytes adds at most. -/
theorem sT_most {a : List Int} {n : Nat} (h : Byt a) (hn : a.length ≤ n) : 2 * sT a ≤ 255 * ((n : Int) * ((n : Int) + 1)) := by
  have h1 := (sT_bd h).2
  have h2 : (a.length : Int) * ((a.length : Int) + 1) ≤ (n : Int) * ((n : Int) + 1) := Int.mul_le_mul (by omega) (by omega) (by omega) (by omega)
  omega

/-- Both numbers behind more bytes, ahead of the remainder. -/
def rL (l : Int) (xs : List Int) : Int := l + sS xs
def rH (l h : Int) (xs : List Int) : Int := h + (xs.length : Int) * l + sT xs
theorem rL_nil (l : Int) : rL l [] = l := by simp [rL, sS]
theorem rH_nil (l h : Int) : rH l h [] = h := by simp [rH, sT]
theorem rL_snoc (l c : Int) (xs : List Int) : rL l (xs ++ [c]) = rL l xs + c := by unfold rL; rw [sS_app, sS_one]; omega
theorem rH_snoc (l h c : Int) (xs : List Int) : rH l h (xs ++ [c]) = rH l h xs + (rL l xs + c) := by
  unfold rH rL
  rw [sT_app, sT_one]
  simp only [List.length_append, List.length_singleton, Int.natCast_add, Int.add_mul]
  omega
theorem rL_bd {l : Int} {xs : List Int} (h : Byt xs) (h0 : 0 ≤ l) (h1 : l ≤ 65520) (hn : xs.length ≤ 5552) : 0 ≤ rL l xs ∧ rL l xs ≤ 1481280 := by
  have := sS_bd h
  unfold rL
  omega
theorem rH_bd {l h : Int} {xs : List Int} (hx : Byt xs) (h0 : 0 ≤ l) (h1 : l ≤ 65520) (g0 : 0 ≤ h) (g1 : h ≤ 65520) (hn : xs.length ≤ 5552) : 0 ≤ rH l h xs ∧ rH l h xs ≤ 4294690200 := by
  have a1 := sT_bd hx
  have a2 := sT_most hx hn
  have a3 : (xs.length : Int) * l ≤ 5552 * 65520 := Int.mul_le_mul (by omega) h1 h0 (by omega)
  have a4 : 0 ≤ (xs.length : Int) * l := Int.mul_nonneg (by omega) h0
  unfold rH
  omega

/-- Both numbers behind more bytes. -/
def aL (l : Int) (xs : List Int) : Int := rL l xs % 65521
def aH (l h : Int) (xs : List Int) : Int := rH l h xs % 65521
theorem aL_bd (l : Int) (xs : List Int) : 0 ≤ aL l xs ∧ aL l xs ≤ 65520 := by unfold aL; omega
theorem aH_bd (l h : Int) (xs : List Int) : 0 ≤ aH l h xs ∧ aH l h xs ≤ 65520 := by unfold aH; omega
theorem aL_nil {l : Int} (h0 : 0 ≤ l) (h1 : l ≤ 65520) : aL l [] = l := by unfold aL; rw [rL_nil]; omega
theorem aH_nil {l h : Int} (h0 : 0 ≤ h) (h1 : h ≤ 65520) : aH l h [] = h := by unfold aH; rw [rH_nil]; omega
theorem mul_mod_cong {n a b : Int} (h : a % 65521 = b % 65521) : (n * a) % 65521 = (n * b) % 65521 := by
  rw [Int.mul_emod, h, ← Int.mul_emod]
theorem aL_app (l : Int) (xs ys : List Int) : aL (aL l xs) ys = aL l (xs ++ ys) := by
  unfold aL rL
  rw [sS_app]
  omega
theorem aH_app (l h : Int) (xs ys : List Int) : aH (aL l xs) (aH l h xs) ys = aH l h (xs ++ ys) := by
  unfold aH aL rH rL
  have h1 : ((ys.length : Int) * ((l + sS xs) % 65521)) % 65521 = ((ys.length : Int) * (l + sS xs)) % 65521 := mul_mod_cong (by omega)
  rw [sT_app]
  simp only [List.length_append, Int.natCast_add, Int.add_mul, Int.mul_add] at *
  omega

/-- A sum as one number. -/
def wN (l h : Int) : Int := h * 65536 + l
theorem wN_bd {l h : Int} (h0 : 0 ≤ l) (h1 : l ≤ 65520) (g0 : 0 ≤ h) (g1 : h ≤ 65520) : 0 ≤ wN l h ∧ wN l h ≤ 4293984240 := by unfold wN; omega
theorem wN_low {l h : Int} (h0 : 0 ≤ l) (h1 : l ≤ 65520) : wN l h % 65536 = l := by unfold wN; omega
theorem wN_high {l h : Int} (h0 : 0 ≤ l) (h1 : l ≤ 65520) : wN l h / 65536 = h := by unfold wN; omega
/-- The sum of bytes. -/
def sumN (xs : List Int) : Int := wN (aL 1 xs) (aH 1 0 xs)
/-- The sum with more bytes. -/
def addN (l h : Int) (xs : List Int) : Int := wN (aL l xs) (aH l h xs)
theorem sumN_add (xs ys : List Int) : addN (aL 1 xs) (aH 1 0 xs) ys = sumN (xs ++ ys) := by
  unfold addN sumN
  rw [aL_app, aH_app]
theorem byt_zeros (n : Nat) : Byt (List.replicate n 0) := fun x h => by
  have := List.eq_of_mem_replicate h
  omega
theorem sumN_bd (xs : List Int) : 0 ≤ sumN xs ∧ sumN xs ≤ 4293984240 := by
  obtain ⟨a1, a2⟩ := aL_bd 1 xs
  obtain ⟨a3, a4⟩ := aH_bd 1 0 xs
  exact wN_bd a1 a2 a3 a4
end Go.Proofs.YthmpimjmajoimaaGreatDoor
namespace Go.Proofs.YthmpimjmajoimaaGreatDoor

/-- A number's four bytes. -/
def four (n : Int) : List Int := [n % 256, n / 256 % 256, n / 65536 % 256, n / 16777216 % 256]
/-- The number of four bytes. -/
def back4 (a b c d : Int) : Int := a + 256 * b + 65536 * c + 16777216 * d
theorem four_len (n : Int) : (four n).length = 4 := rfl
theorem byt_four (n : Int) : Byt (four n) := by
  intro x hx
  simp only [four, List.mem_cons, List.not_mem_nil, or_false] at hx
  rcases hx with rfl | rfl | rfl | rfl <;> omega
theorem back_four {n : Int} (h0 : 0 ≤ n) (h1 : n ≤ 4294967295) : back4 (n % 256) (n / 256 % 256) (n / 65536 % 256) (n / 16777216 % 256) = n := by unfold back4; omega
theorem back4_bd {a b c d : Int} (a0 : 0 ≤ a) (a1 : a ≤ 255) (b0 : 0 ≤ b) (b1 : b ≤ 255) (c0 : 0 ≤ c) (c1 : c ≤ 255) (d0 : 0 ≤ d) (d1 : d ≤ 255) : 0 ≤ back4 a b c d ∧ back4 a b c d ≤ 4294967295 := by unfold back4; omega

/-- The 13 bytes ahead of the sum. -/
def headB (k s i q : Int) : List Int := k :: (four s ++ four i ++ four q)
/-- A page's bytes. -/
def pageB (k s i q : Int) (blk : List Int) : List Int := headB k s i q ++ (four (sumN (headB k s i q ++ blk)) ++ blk)
theorem headB_len (k s i q : Int) : (headB k s i q).length = 13 := rfl
theorem pageB_len (k s i q : Int) (blk : List Int) : (pageB k s i q blk).length = blk.length + 17 := by
  simp [pageB, headB_len, four_len]; omega
theorem byt_head {k : Int} (s i q : Int) (h0 : 0 ≤ k) (h1 : k ≤ 255) : Byt (headB k s i q) := by
  intro x hx
  unfold headB at hx
  rcases List.mem_cons.1 hx with rfl | hx
  · exact ⟨h0, h1⟩
  · exact ((byt_four s).app (byt_four i)).app (byt_four q) x hx
theorem byt_page {k : Int} (s i q : Int) {blk : List Int} (h0 : 0 ≤ k) (h1 : k ≤ 255) (hb : Byt blk) : Byt (pageB k s i q blk) := (byt_head s i q h0 h1).app ((byt_four _).app hb)

/-- The number at o; the sum that the other bytes have. -/
def bk (ps : List Int) (o : Nat) : Int := back4 (ps.getD o 0) (ps.getD (o + 1) 0) (ps.getD (o + 2) 0) (ps.getD (o + 3) 0)
def tot (ps : List Int) : Int := sumN (ps.take 13 ++ ps.drop 17)
theorem page_bk1 {k s i q : Int} {blk : List Int} (h0 : 0 ≤ s) (h1 : s ≤ 4294967295) : bk (pageB k s i q blk) 1 = s := back_four h0 h1
theorem page_bk5 {k s i q : Int} {blk : List Int} (h0 : 0 ≤ i) (h1 : i ≤ 4294967295) : bk (pageB k s i q blk) 5 = i := back_four h0 h1
theorem page_bk9 {k s i q : Int} {blk : List Int} (h0 : 0 ≤ q) (h1 : q ≤ 4294967295) : bk (pageB k s i q blk) 9 = q := back_four h0 h1
theorem page_bk13 {k s i q : Int} {blk : List Int} : bk (pageB k s i q blk) 13 = sumN (headB k s i q ++ blk) := by
  have := sumN_bd (headB k s i q ++ blk)
  exact back_four this.1 (by omega)
theorem page_tot {k s i q : Int} {blk : List Int} : tot (pageB k s i q blk) = sumN (headB k s i q ++ blk) := rfl

/-- A row laid over another one from o on. -/
def putB {α : Type} (xs : List α) (o : Nat) (ys : List α) : List α := xs.take o ++ (ys ++ xs.drop (o + ys.length))
theorem putB_nil {α : Type} (xs : List α) (o : Nat) : putB xs o [] = xs := by simp [putB]
theorem putB_len {α : Type} {xs ys : List α} {o : Nat} (h : o + ys.length ≤ xs.length) : (putB xs o ys).length = xs.length := by simp [putB]; omega
theorem putB_snoc {α : Type} {xs ys : List α} {o : Nat} (y : α) (h : o + ys.length < xs.length) : (putB xs o ys).set (o + ys.length) y = putB xs o (ys ++ [y]) := by
  unfold putB
  rw [List.set_append_right _ _ (by simp; omega)]
  have e : o + ys.length - (xs.take o).length = ys.length := by simp; omega
  rw [e, List.set_append_right _ _ (by omega), Nat.sub_self]
  rw [show xs.drop (o + ys.length) = xs[o + ys.length] :: xs.drop (o + ys.length + 1) from List.drop_eq_getElem_cons h]
  simp [Nat.add_assoc]
end Go.Proofs.YthmpimjmajoimaaGreatDoor
