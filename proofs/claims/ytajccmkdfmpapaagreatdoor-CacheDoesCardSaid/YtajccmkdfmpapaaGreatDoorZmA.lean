/-
  A law that answers true and leaves all old memory alone meets its row's post.
  What errors.As answers of an error that is a bare code, at a target that is a pointer to a code; and so fault.Code. (For a program without the chain of faults.)
  What the listed variable gives a walk (errors.errorType's one cell), and a world that meets it.
-/
import Derived.Test.YtajccmkdfmpapaaGreatDoorRows
import Derived.Below
import Derived.Carry
import Derived.ChangeSame
import Derived.ChangeVars
import Derived.JoinedOf
import Derived.RowKit
import Derived.RowKitTokens
import Derived.Test.YtajccmkdfmpapaaGreatDoorChecked
import Derived.WalkKit
import Derived.LaidEql
import Derived.Stop.Asserts
import Derived.Outline
import Derived.Lib.Hide
import Derived.Deep.LoopGhost
import Derived.LaidLaws
import Derived.LaidHandle
import Derived.Stop.Joined
namespace Go.Proofs.YtajccmkdfmpapaaGreatDoor
open Go.ChangeShapes Go.WideShapes Go.RowKit

section
variable {H : Type} {enc : TypeId × Value → H} {P : Program}

theorem trodAll_below (hl : laidOutB P = true) {W W' : World} (hb : Below W.heap.size W W') : ∀ {ts : List TypeId} {vs : List Value} {ds : List (DataW H)} {ps : List MemPlace},
    (∀ t ∈ ts, P.readableRec t = true ∧ t < P.types.size) → DataW.TrodAll enc P W 0 (fun _ => true) true ts vs ds ps → (∀ x ∈ ps, x.block < W.heap.size) →
    DataW.TrodAll enc P W' 0 (fun b => decide (b < W.heap.size)) true ts vs ds ps
  | [], [], [], _, _, h, _ => h
  | t :: ts, v :: vs, d :: ds, ps, ht, ⟨p, q, h1, h2, hps⟩, hlt => by
    subst hps
    exact ⟨p, q, Below.trod hl (ht t (by simp)).1 (ht t (by simp)).2 h1 hb (fun x hx => hlt x (by simp [hx])),
      trodAll_below hl hb (fun u hu => ht u (by simp [hu])) h2 (fun x hx => hlt x (by simp [hx])), rfl⟩

theorem law_post {f : Func} {s : ChangeSpec} {apart : Bool} {W W' : World} {args : Array Value} {ds gs : List (DataW H)} {before : List MemPlace} {tb : TypeId}
    (hl : laidOutB P = true) (hts : ∀ t ∈ f.params.toList, P.readableRec t = true ∧ t < P.types.size) (hv : s.vars = []) (hrt : f.resultTypes = #[tb]) (htb : P.underlying tb = some .bool)
    (hW : DataW.Whole enc P f.params.toList s.vars apart W args.toList ds gs before) (hs : s.fn H (ds ++ gs) = { results := [.lit (.bool true)], args := ds })
    (hb : Below W.heap.size W W') : s.post enc P f apart true false false W args (.bool true) W' := by
  have hlt : ∀ p ∈ before, p.block < W.heap.size := fun p hp => hW.lt p hp
  have hW' := hW
  obtain ⟨p, q, hA, hV, rfl, _, _⟩ := hW
  refine ⟨ds, gs, p ++ q, [], p, [], hW', ?_, ?_, ?_, hb.frame _, fun h => by cases h⟩
  · rw [hs, hrt]
    exact trodAll_mk1 (shut_bool htb true)
  · rw [hs]
    exact trodAll_below hl hb hts hA (fun x hx => hlt x (by simp [hx]))
  · rw [hs, hv]
    rfl

end

theorem ownP : ownKnob Tryz.prog.godebug = none := by kernel_rfl
theorem laidOutP : laidOutB Tryz.prog = true := by kernel_rfl
end Go.Proofs.YtajccmkdfmpapaaGreatDoor
namespace Go.Proofs.YtajccmkdfmpapaaGreatDoor
open Go.RowKit Go.Extern.Stop Go.Stop Go.Extern

/-! ### the model's entries by names that a walk does not open -/
def vOfF : Array Value → Sem Value := fun args => ReflectliteValue.unpack (args.getD 0 (.tuple #[]))
def vTypeF : Array Value → Sem Value := ReflectliteValue.methodAny (ReflectliteValue.valueError "reflectlite.Value.Type" 0) fun t _ _ _ => ReflectliteType.toType t
def vIsNilF : Array Value → Sem Value := ReflectliteValue.method (ReflectliteValue.valueError "reflectlite.Value.IsNil" 0) ReflectliteValue.isNil
def vElemF : Array Value → Sem Value := ReflectliteValue.method (ReflectliteValue.valueError "reflectlite.Value.Elem" 0) ReflectliteValue.elem
def vSetF : Array Value → Sem Value := ReflectliteValue.set
def rtElemF : Array Value → Sem Value := ReflectliteType.method ReflectliteType.elem
def rtImplF : Array Value → Sem Value := ReflectliteType.relation "Implements" ReflectliteType.implements_
def rtAssignF : Array Value → Sem Value := ReflectliteType.relation "AssignableTo" ReflectliteType.assignableTo
def tOfF : Array Value → Sem Value := ReflectliteType.typeOf
def kindF : Array Value → Sem Value := ReflectliteType.abiMethod fun t => do pure (.int .u8 (← Rtype.kind t))

/-- The handle of a type. -/
abbrev hnd (t : Nat) : Value := .agg #[.pointer (some ⟨1, t, none⟩)]
/-- The Value of a *Errno that lies at a; the Value of an Errno there; that of an Errno that may be set. -/
abbrev valP (a : Addr) : Value := .agg #[.pointer (some ⟨1, 80, none⟩), .pointer (some a), .int .u64 150]
abbrev valE (a : Addr) : Value := .agg #[.pointer (some ⟨1, 30, none⟩), .pointer (some a), .int .u64 130]
abbrev valS (a : Addr) : Value := .agg #[.pointer (some ⟨1, 30, none⟩), .pointer (some a), .int .u64 386]

theorem e_typeOfE (v : Value) (w : World) : (tOfF #[.iface 30 v]).run Tryz.prog w = .ok (.iface 127 (hnd 30)) w := by kernel_rfl
theorem e_assignE (w : World) : (rtAssignF #[hnd 30, .iface 127 (hnd 30)]).run Tryz.prog w = .ok (.bool true) w := by kernel_rfl
theorem e_implE (w : World) : (rtImplF #[hnd 30, .iface 127 (hnd 26)]).run Tryz.prog w = .ok (.bool true) w := by kernel_rfl
theorem e_elemP (w : World) : (rtElemF #[hnd 80]).run Tryz.prog w = .ok (.iface 127 (hnd 30)) w := by kernel_rfl
theorem e_kindP (w : World) : (kindF #[.pointer (some ⟨1, 80, none⟩)]).run Tryz.prog w = .ok (.int .u8 22) w := by kernel_rfl
theorem e_kindE (w : World) : (kindF #[.pointer (some ⟨1, 30, none⟩)]).run Tryz.prog w = .ok (.int .u8 2) w := by kernel_rfl
theorem e_mKind (h : Value) (w : World) : (Go.method 296 127 (.agg #[h]) "Kind").run Tryz.prog w = .ok (116, h) w := by kernel_rfl
theorem e_mElem (h : Value) (w : World) : (Go.method 296 127 (.agg #[h]) "Elem").run Tryz.prog w = .ok (126, .agg #[h]) w := by kernel_rfl
theorem e_mImpl (h : Value) (w : World) : (Go.method 296 127 (.agg #[h]) "Implements").run Tryz.prog w = .ok (127, .agg #[h]) w := by kernel_rfl
theorem e_mAssign (h : Value) (w : World) : (Go.method 296 127 (.agg #[h]) "AssignableTo").run Tryz.prog w = .ok (124, .agg #[h]) w := by kernel_rfl
theorem e_valueOfP (t : Addr) (w : World) : (vOfF #[.iface 80 (.pointer (some t))]).run Tryz.prog w = .ok (valP ⟨w.heap.size, 0, none⟩) (w.alloc (.cells #[.pointer (some t)] 80)) := by kernel_rfl
theorem e_valueOfE (n : Int) (w : World) : (vOfF #[.iface 30 (.int .i64 n)]).run Tryz.prog w = .ok (valE ⟨w.heap.size, 0, none⟩) (w.alloc (.cells #[.int .i64 n] 30)) := by kernel_rfl
theorem e_typeP (a : Addr) (w : World) : (vTypeF #[valP a]).run Tryz.prog w = .ok (.iface 127 (hnd 80)) w := by kernel_rfl

/-! ### the entries that read or write memory -/
theorem e_partsP (a : Addr) (w : World) : (ReflectliteValue.parts (valP a)).run Tryz.prog w = .ok (some (80, a, 150)) w := by kernel_rfl
theorem e_partsE (a : Addr) (w : World) : (ReflectliteValue.parts (valE a)).run Tryz.prog w = .ok (some (30, a, 130)) w := by kernel_rfl
theorem e_partsS (a : Addr) (w : World) : (ReflectliteValue.parts (valS a)).run Tryz.prog w = .ok (some (30, a, 386)) w := by kernel_rfl
theorem e_isNil (a p : Addr) (W : World) (ha : W.cell? a = some (.pointer (some p))) : (vIsNilF #[valP a]).run Tryz.prog W = .ok (.bool false) W := by
  show Sem.run Tryz.prog ((ReflectliteValue.parts (valP a)) >>= _) W = _
  simp only [Sem.run_bind, e_partsP, Result.andThen]
  simp [ReflectliteValue.isNil, loadVar, isAgg, underlying, Tryz.underlying80, ha, Result.andThen]
theorem e_elemOf (w : World) : (Rtype.elem? 80).run Tryz.prog w = .ok (some 30) w := by kernel_rfl
theorem e_mk (p : Addr) (w : World) : (ReflectliteValue.mk 30 p ReflectliteValue.flagAddr).run Tryz.prog w = .ok (valS p) w := by kernel_rfl
theorem e_elemV (a p : Addr) (W : World) (ha : W.cell? a = some (.pointer (some p))) : (vElemF #[valP a]).run Tryz.prog W = .ok (valS p) W := by
  show Sem.run Tryz.prog ((ReflectliteValue.parts (valP a)) >>= _) W = _
  simp only [Sem.run_bind, e_partsP, Result.andThen]
  simp [ReflectliteValue.elem, loadVar, isAgg, underlying, Tryz.underlying80, ha, Result.andThen, e_elemOf, e_mk]
theorem e_direct (w : World) : (Rtype.directlyAssignable 30 30).run Tryz.prog w = .ok true w := by kernel_rfl
theorem e_set (t b : Addr) (n : Int) (old : Value) (W : World) (hb : W.cell? b = some (.int .i64 n)) (ht : W.cell? t = some old) (hf : W.frozen? t = false) :
    (vSetF #[valS t, valE b]).run Tryz.prog W = .ok (.tuple #[]) (W.setCell t (.int .i64 n)) := by
  show Sem.run Tryz.prog ((ReflectliteValue.parts (valS t)) >>= fun q => (ReflectliteValue.parts (valE b)) >>= _) W = _
  simp only [Sem.run_bind, e_partsS, e_partsE, Result.andThen]
  simp [ReflectliteValue.flagAddr, loadVar, isAgg, underlying, Tryz.underlying30, hb, Result.andThen, e_direct, storeVar, Value.cells, storeCells, Addr.add]
  rw [run_store Tryz.prog W t _ _ (by rfl)]
  simp [ht, hf]

theorem lt_of_cell {w : World} {p : Addr} {v : Value} (h : w.cell? p = some v) : p.block < w.heap.size := World.block_lt_of_cell? w p h

/-- errors.as at the chain: the world behind it. -/
def asWorld (w : World) (a t : Addr) (e : Int) : World :=
  ((w.alloc (.cells #[.pointer (some ⟨1, 80, none⟩), .pointer (some a), .int .u64 150] 111)).alloc (.cells #[.int .i64 e] 30)).setCell t (.int .i64 e)
def AsIs (w : World) (a t : Addr) (e : Int) (r : Ending) (w' : World) : Prop := r = .returned (.bool true) ∧ w' = asWorld w a t e

set_option maxHeartbeats 1000000 in
theorem as_errno {w : World} (e : Int) (a t : Addr) (old : Value) (ha : w.cell? a = some (.pointer (some t))) (ht : w.cell? t = some old) (hf : w.frozen? t = false) :
    Calls Tryz.prog 53 #[.iface 30 (.int .i64 e), .iface 80 (.pointer (some t)), valP a, .iface 127 (hnd 30)] w (AsIs w a t e) := by
  have hal := lt_of_cell ha
  have htl := lt_of_cell ht
  have h32 := @run_callFunc_extern Tryz.prog 71 _ tOfF Tryz.func71 (by kernel_rfl) (by kernel_rfl) (by kernel_rfl) (by kernel_rfl)
  have h75 := @run_callFunc_extern Tryz.prog 124 _ rtAssignF Tryz.func124 (by kernel_rfl) (by kernel_rfl) (by kernel_rfl) (by kernel_rfl)
  have h37 := @run_callFunc_extern Tryz.prog 72 _ vElemF Tryz.func72 (by kernel_rfl) (by kernel_rfl) (by kernel_rfl) (by kernel_rfl)
  have h38 := @run_callFunc_extern Tryz.prog 73 _ vSetF Tryz.func73 (by kernel_rfl) (by kernel_rfl) (by kernel_rfl) (by kernel_rfl)
  have h28 := @run_callFunc_extern Tryz.prog 50 _ vOfF Tryz.func50 (by kernel_rfl) (by kernel_rfl) (by kernel_rfl) (by kernel_rfl)
  have k1 := e_typeOfE
  have k3 := e_assignE
  have k5 := e_mAssign
  have k6 := e_valueOfE
  have kE := e_elemV a t (w.alloc (.cells #[.pointer (some ⟨1, 80, none⟩), .pointer (some a), .int .u64 150] 111)) (by rw [World.cell?_alloc_lt _ _ a hal]; exact ha)
  have kS := e_set t ⟨w.heap.size + 1, 0, none⟩ e old ((w.alloc (.cells #[.pointer (some ⟨1, 80, none⟩), .pointer (some a), .int .u64 150] 111)).alloc (.cells #[.int .i64 e] 30))
    (by rw [World.cell?_alloc_at _ _ _ _ (by simp)]; rfl)
    (by rw [World.cell?_alloc_lt _ _ t (by simp; omega), World.cell?_alloc_lt _ _ t htl]; exact ht)
    (by rw [World.frozen?_alloc_old _ _ t (by simp; omega), World.frozen?_alloc_old _ _ t (Nat.ne_of_lt htl)]; exact hf)
  clear ha ht hf
  go_enter Tryz.func53, Tryz.ntmps53
  go_wp2_with fail
  go_loopg [0] 0 (fun _ u wr => w.alloc (.cells #[.pointer (some ⟨1, 80, none⟩), .pointer (some a), .int .u64 150] 111) = wr ∧ u = .iface 30 (.int .i64 e))
  case atStart => exact ⟨rfl, rfl⟩
  case round =>
    obtain ⟨rfl, rfl⟩ := hrel
    go_wp2
    go_ret
    exact ⟨rfl, rfl⟩

/-- The one package variable that errors.As reads. -/
def Gl (w : World) : Prop := w.cell? ⟨0, 0, none⟩ = some (.iface 127 (hnd 26))
theorem Gl.below {w w' : World} (h : Gl w) (hb : Below w.heap.size w w') : Gl w' := (hb.cell (p := ⟨0, 0, none⟩) (lt_of_cell h)).trans h

def AsDone (w : World) (t : Addr) (e : Int) (r : Ending) (w' : World) : Prop :=
  r = .returned (.bool true) ∧ w'.cell? t = some (.int .i64 e) ∧ ∀ B, B ≤ t.block → B ≤ w.heap.size → Below B w w'

theorem asWorld_below {w : World} {a t : Addr} {e : Int} {B : Nat} (h1 : B ≤ t.block) (h2 : B ≤ w.heap.size) : Below B w (asWorld w a t e) :=
  (((Below.refl B w).alloc h2 _).alloc (by simp; omega) _).setCell h1 _
theorem asWorld_cell {w : World} {a t : Addr} {e : Int} {old : Value} (ht : w.cell? t = some old) : (asWorld w a t e).cell? t = some (.int .i64 e) := by
  have htl := lt_of_cell ht
  unfold asWorld
  refine World.cell?_setCell_same _ _ _ (u := old) ?_
  rw [World.cell?_alloc_lt _ _ t (by simp; omega), World.cell?_alloc_lt _ _ t htl]; exact ht

theorem as_nil (t : Value) (w : World) : Calls Tryz.prog 29 #[.nilIface, t] w fun r w' => r = .returned (.bool false) ∧ w = w' := by
  go_enter Tryz.func29, Tryz.ntmps29
  go_wp2
  go_ret
  exact ⟨rfl, rfl⟩

set_option maxHeartbeats 1000000 in
theorem eAs_errno {w : World} (e : Int) (t : Addr) (old : Value) (hg : Gl w) (ht : w.cell? t = some old) (hf : w.frozen? t = false) :
    Calls Tryz.prog 29 #[.iface 30 (.int .i64 e), .iface 80 (.pointer (some t))] w (AsDone w t e) := by
  have htl := lt_of_cell ht
  have hgl := lt_of_cell hg
  have h28 := @run_callFunc_extern Tryz.prog 50 _ vOfF Tryz.func50 (by kernel_rfl) (by kernel_rfl) (by kernel_rfl) (by kernel_rfl)
  have h29 := @run_callFunc_extern Tryz.prog 51 _ vTypeF Tryz.func51 (by kernel_rfl) (by kernel_rfl) (by kernel_rfl) (by kernel_rfl)
  have h30 := @run_callFunc_extern Tryz.prog 52 _ vIsNilF Tryz.func52 (by kernel_rfl) (by kernel_rfl) (by kernel_rfl) (by kernel_rfl)
  have h66 := @run_callFunc_extern Tryz.prog 116 _ kindF Tryz.func116 (by kernel_rfl) (by kernel_rfl) (by kernel_rfl) (by kernel_rfl)
  have h77 := @run_callFunc_extern Tryz.prog 126 _ rtElemF Tryz.func126 (by kernel_rfl) (by kernel_rfl) (by kernel_rfl) (by kernel_rfl)
  have h78 := @run_callFunc_extern Tryz.prog 127 _ rtImplF Tryz.func127 (by kernel_rfl) (by kernel_rfl) (by kernel_rfl) (by kernel_rfl)
  have k1 := e_valueOfP
  have k2 := e_typeP
  have k3 := e_mKind
  have k4 := e_kindP
  have k5 := e_kindE
  have k6 := e_mElem
  have k7 := e_elemP
  have k8 := e_mImpl
  have k9 := e_implE
  have kN := e_isNil ⟨w.heap.size, 0, none⟩ t ((w.alloc (.cells #[.pointer (some t)] 80)).alloc (.cells #[.pointer (some ⟨1, 80, none⟩), .pointer (some ⟨w.heap.size, 0, none⟩), .int .u64 150] 111)) (by simp)
  have hg2 : ((w.alloc (.cells #[.pointer (some t)] 80)).alloc (.cells #[.pointer (some ⟨1, 80, none⟩), .pointer (some ⟨w.heap.size, 0, none⟩), .int .u64 150] 111)).cell? ⟨0, 0, none⟩ = some (.iface 127 (hnd 26)) := by
    rw [World.cell?_alloc_lt _ _ ⟨0, 0, none⟩ (by simp), World.cell?_alloc_lt _ _ ⟨0, 0, none⟩ hgl]; exact hg
  have HB := Lib.hid (((Below.refl w.heap.size w).alloc (Nat.le_refl _) (.cells #[.pointer (some t)] 80)).alloc (by simp) (.cells #[.pointer (some ⟨1, 80, none⟩), .pointer (some ⟨w.heap.size, 0, none⟩), .int .u64 150] 111))
  have HT := Lib.hid ((HB.out.cell (p := t) htl).trans ht)
  have HF := Lib.hid ((HB.out.frozen (p := t) htl).trans hf)
  have HA : Hid (((w.alloc (.cells #[.pointer (some t)] 80)).alloc (.cells #[.pointer (some ⟨1, 80, none⟩), .pointer (some ⟨w.heap.size, 0, none⟩), .int .u64 150] 111)).cell? ⟨w.heap.size, 0, none⟩ = some (.pointer (some t))) := Lib.hid (by simp)
  clear ht hf hg
  go_enter Tryz.func29, Tryz.ntmps29
  go_wp2_with (go_at_call 53; refine (as_errno e _ t old HA.out HT.out HF.out).mono ?_; rintro r w' ⟨rfl, rfl⟩)
  go_ret
  refine ⟨rfl, asWorld_cell HT.out, fun B h1 h2 => ?_⟩
  exact (HB.out.mono h2).trans (asWorld_below h1 (by simp; omega))

def CodeIs (w : World) (e : Int) (r : Ending) (w' : World) : Prop := r = .returned (.int .i64 e) ∧ Below w.heap.size w w'

theorem code_nil (w : World) : Calls Tryz.prog 7 #[.nilIface] w (CodeIs w 0) := by
  go_enter Tryz.func7, Tryz.ntmps7
  go_wp2_with (go_at_call 29; refine (as_nil _ _).mono ?_; rintro r w' ⟨rfl, rfl⟩)
  go_ret
  exact ⟨rfl, (Below.refl _ _).alloc (Nat.le_refl _) _⟩

theorem code_errno {w : World} (e : Int) (hg : Gl w) : Calls Tryz.prog 7 #[.iface 30 (.int .i64 e)] w (CodeIs w e) := by
  have HB := Lib.hid ((Below.refl w.heap.size w).alloc (Nat.le_refl _) (.cells #[.int .i64 0] 30))
  have HG := Lib.hid (hg.below HB.out)
  clear hg
  go_enter Tryz.func7, Tryz.ntmps7
  go_wp2_with (go_at_call 29; refine (eAs_errno e ⟨w.heap.size, 0, none⟩ (.int .i64 0) HG.out (by simp) (by simp)).mono ?_; rintro r w' ⟨rfl, hc, hb⟩; have HX := Lib.hid hb; clear hb)
  go_ret
  exact ⟨rfl, HB.out.trans (HX.out _ (Nat.le_refl _) (by simp))⟩

/-- An error that is a code, or none (0). -/
def errV (e : Int) : Value := if e = 0 then .nilIface else .iface 30 (.int .i64 e)
theorem code_is {w : World} (e : Int) (hg : Gl w) : Calls Tryz.prog 7 #[errV e] w (CodeIs w e) := by
  unfold errV
  by_cases h : e = 0
  · rw [if_pos h]; subst h; exact code_nil w
  · rw [if_neg h]; exact code_errno e hg
end Go.Proofs.YtajccmkdfmpapaaGreatDoor
namespace Go.Proofs.YtajccmkdfmpapaaGreatDoor
open Go.ChangeShapes Go.WideShapes Go.RowKit

theorem etG : Tryz.prog.globalNamed "errors.errorType" = some 0 := by kernel_rfl
theorem rtT : (Tryz.prog.cutTypes.find? (·.1 == "internal/reflectlite.rtype")).map (·.2) = some 127 := by kernel_rfl
theorem oneRow : ((List.range 196).filter fun t => Tryz.prog.rowNamed t [101, 114, 114, 111, 114]) = [26] := by kernel_rfl
theorem ntypes : Tryz.prog.types.size = 196 := by kernel_rfl

abbrev laid1 {H : Type} : List (String × DataW H) := [("errors.errorType", Rows.laid_errors_errorType)]

theorem gl_of_laid {W : World} (h : laidMetH Tryz.prog laid1 W) : Gl W := by
  have h' : laidMet Tryz.prog [] W ∧ handlesMet Tryz.prog laid1 W := h
  obtain ⟨name, u, ty, e1, e2, e3, e4, e5⟩ := h'.2 _ (List.mem_singleton.2 rfl)
  have en : name = [101, 114, 114, 111, 114] := (Option.some.inj e1).symm
  subst en
  obtain rfl := Option.some.inj (rtT.symm.trans e2)
  have hm : ty ∈ (List.range 196).filter fun t => Tryz.prog.rowNamed t [101, 114, 114, 111, 114] := List.mem_filter.2 ⟨List.mem_range.2 (by rw [← ntypes]; exact e3), e4⟩
  rw [oneRow] at hm
  obtain rfl := List.mem_singleton.1 hm
  have hh : typeHandle Tryz.prog 26 = .pointer (some ⟨1, 26, none⟩) := by kernel_rfl
  rw [hh] at e5
  unfold Gl
  simpa using World.var?_cell etG e5 0

noncomputable def laidWorld (os : Os) : World :=
  let w0 := World.holding Tryz.prog os ⟨#[], #[], []⟩
  { w0 with heap := w0.heap.modify 0 fun
      | .cells _ t frozen => .cells #[.iface 127 (hnd 26)] t frozen
      | o => o }
theorem laidWorld_met (os : Os) (args : Array Value) : laidMetH Tryz.prog laid1 ((laidWorld os).forCall (fun _ _ => 0) ⟨#[], args, []⟩).memory :=
  laidMetH_of_parts (laidMet_nil _ _) (by kernel_rfl)
end Go.Proofs.YtajccmkdfmpapaaGreatDoor
