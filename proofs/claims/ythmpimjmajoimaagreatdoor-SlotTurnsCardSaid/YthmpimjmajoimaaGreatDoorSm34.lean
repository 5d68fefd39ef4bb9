/-
  What fault.Place and fault.Trail answer of an error that is a chain of faults.
  What fault.Trail answers of an error that is a chain of faults, and of none.
  What errors.Is answers of an error that is a chain of faults, at a target that is a code; and so fault.Is.
  What errors.As answers of an error that is a chain of faults, at a target that is a pointer to a code; and so fault.Code.
  fault.Code of an error that is a chain of faults, and of none: its code.
  The errors of the landed slots: a fault around a code, or none; Wrap, errors.Is and Code of such.
-/
import Derived.Test.YthmpimjmajoimaaGreatDoorSm33
import Derived.OwnWalk
import Derived.Deep.AppendLies
import Derived.Test.YthmpimjmajoimaaGreatDoorSm10
import Derived.Test.YthmpimjmajoimaaGreatDoorSm32
namespace Go.Proofs.YthmpimjmajoimaaGreatDoor
open Go.RowKit Go.Extern.Stop Go.Stop Go.Extern

/-- The At of the outermost fault of that Op. -/
def placeOf (op : ByteArray) : List (ByteArray × Int) → Int × Bool
  | [] => (0, false)
  | s :: l => if s.1.toList = op.toList then (s.2, true) else placeOf op l

/-- The pointer that met tells: to the chain's first fault, or none. -/
def Met (w : World) (e : Int) : List (ByteArray × Int) → Value → Prop
  | [], v => v = .pointer none
  | s :: l, v => ∃ (b : Nat) (u : Value), v = .pointer (some ⟨b, 0, none⟩) ∧ b < w.heap.size ∧
      w.cell? ⟨b, 0, none⟩ = some (.string s.1) ∧ w.cell? ⟨b, 1, none⟩ = some (.int .i64 s.2) ∧ w.cell? ⟨b, 2, none⟩ = some u ∧ Err w e l u

def PlaceIs (w : World) (x : Int × Bool) (r : Ending) (w' : World) : Prop := r = .returned (.tuple #[.int .i64 x.1, .bool x.2]) ∧ w = w'

end Go.Proofs.YthmpimjmajoimaaGreatDoor
namespace Go.Proofs.YthmpimjmajoimaaGreatDoor
open Go.RowKit Go.Extern.Stop Go.Stop Go.Extern

/-- The slice value v reads as these texts, below block B. -/
def Strs (w : World) (B : Nat) (v : Value) (xs : List ByteArray) : Prop :=
  ∃ (A : Option Addr) (c : Nat), v = .slice A xs.length c ∧ xs.length ≤ c ∧ (0 < xs.length → ∃ b o : Nat, A = some ⟨b, o, none⟩ ∧ b < B ∧ ∀ i (h : i < xs.length), w.cell? ⟨b, o + i, none⟩ = some (.string xs[i]))

theorem Strs.below {w w' : World} {B : Nat} {v : Value} {xs : List ByteArray} (h : Strs w B v xs) (hb : Below B w w') : Strs w' B v xs := by
  obtain ⟨A, c, hv, hc, hr⟩ := h
  refine ⟨A, c, hv, hc, fun hn => ?_⟩
  obtain ⟨b, o, hA, hlt, hcell⟩ := hr hn
  exact ⟨b, o, hA, hlt, fun i hi => (hb.cell (p := ⟨b, o + i, none⟩) hlt).trans (hcell i hi)⟩
theorem Strs.mono {w : World} {B B' : Nat} {v : Value} {xs : List ByteArray} (h : Strs w B v xs) (hB : B ≤ B') : Strs w B' v xs := by
  obtain ⟨A, c, hv, hc, hr⟩ := h
  refine ⟨A, c, hv, hc, fun hn => ?_⟩
  obtain ⟨b, o, hA, hlt, hcell⟩ := hr hn
  exact ⟨b, o, hA, Nat.lt_of_lt_of_le hlt hB, hcell⟩
theorem Strs.of_own {w : World} {base : Nat} {v : Value} {xs : List ByteArray} (h : w.ownsRow base 9 1 v xs.length (xs.map Value.string)) : Strs w w.heap.size v xs := by
  rcases h.2 with ⟨rfl, h0⟩ | ⟨g, cap, cur, rfl, hb, hg, hn, _, _, ht⟩
  · exact ⟨none, 0, by rw [h0], by omega, fun hn => by omega⟩
  · refine ⟨_, cap, rfl, hn, fun hp => ⟨g, 0, rfl, ?_, fun i hi => ?_⟩⟩
    · rcases Nat.lt_or_ge g w.heap.size with hlt | hge
      · exact hlt
      · rw [Array.getElem?_eq_none hge] at hg; cases hg
    · have := h.cells (g := g) rfl i (.string xs[i]) (by simp [hi])
      rcases i with _ | i
      · simpa [Addr.add] using this
      · simpa [Addr.add, Nat.zero_add] using this

def ops (l : List (ByteArray × Int)) : List ByteArray := l.map (·.1)

theorem strInfo : (Tryz.prog.info? 9).map (fun i => (i.zero, i.size, i.bytes)) = some (some (.string ByteArray.empty), 1, 16) := by kernel_rfl

def TrailIs (w : World) (xs : List ByteArray) (r : Ending) (w' : World) : Prop := ∃ v, r = .returned v ∧ Strs w' w'.heap.size v xs ∧ Below w.heap.size w w'

theorem own_slice {w : World} {base n : Nat} {e : TypeId} {v : Value} {xs : List Value} (h : w.ownsRow base e 1 v n xs) : ∃ A c, v = .slice A n c := by
  rcases h.2 with ⟨rfl, h0⟩ | ⟨g, cap, cur, rfl, _⟩
  · exact ⟨none, 0, by rw [h0]⟩
  · exact ⟨_, _, rfl⟩

theorem Met.below {w w' : World} {e : Int} (hb : Below w.heap.size w w') {l : List (ByteArray × Int)} {v : Value} (h : Met w e l v) : Met w' e l v := by
  cases l with
  | nil => exact h
  | cons s l =>
    obtain ⟨b, u, hv, hlt, h0, h1, h2, hr⟩ := h
    exact ⟨b, u, hv, Nat.lt_of_lt_of_le hlt hb.size, (hb.cell (p := ⟨b, 0, none⟩) hlt).trans h0, (hb.cell (p := ⟨b, 1, none⟩) hlt).trans h1, (hb.cell (p := ⟨b, 2, none⟩) hlt).trans h2, hr.below hb⟩

theorem one_new (w : World) (v : Value) (t : TypeId) : ∀ j u, [v][j]? = some u → (w.alloc (.cells #[v] t)).cell? ((⟨w.heap.size, 0, none⟩ : Addr).add j) = some u := by
  intro j u h
  have hj : j = 0 := by
    rcases j with _ | j
    · rfl
    · simp at h
  subst hj
  simp at h
  subst h
  simp [Addr.add]

def TrailAt (w : World) (e : Int) (l : List (ByteArray × Int)) (k : Nat) (v p : Value) (wr : World) : Prop :=
  ∃ done todo : List (ByteArray × Int), l = done ++ todo ∧ todo.length = k ∧ wr.ownsRow w.heap.size 9 1 v done.length ((ops done).map Value.string) ∧ Met w e todo p ∧ Below w.heap.size w wr

end Go.Proofs.YthmpimjmajoimaaGreatDoor
namespace Go.Proofs.YthmpimjmajoimaaGreatDoor
open Go.RowKit Go.Extern.Stop Go.Stop Go.Extern

/-! ### two errors of one integer type compared: as the numbers are -/
theorem eqIn_iface_int {P : Program} (w : World) (d : Nat) {ti tn : TypeId} {ms : Array (String × TypeId)} {i : TypeInfo} {k : IntKind} (a b : Int)
    (hi : P.underlying ti = some (.interface ms)) (hn : P.underlying tn = some (.int k)) (hinfo : P.info? tn = some i) (hcomp : i.comparable = true) :
    (Op.equalIn (d + 2) ti (.iface tn (.int k a)) (.iface tn (.int k b))).run P w = .ok (a == b) w := by
  simp [Op.equalIn, run_underlying hi, run_underlying hn, typeInfo, hinfo, hcomp]
theorem eq_iface_int {P : Program} (w : World) {ti tn : TypeId} {ms : Array (String × TypeId)} {i : TypeInfo} {k : IntKind} (a b : Int)
    (hi : P.underlying ti = some (.interface ms)) (hn : P.underlying tn = some (.int k)) (hinfo : P.info? tn = some i) (hcomp : i.comparable = true) :
    (binOp .eql ti (.iface tn (.int k a)) (.iface tn (.int k b))).run P w = .ok (.bool (a == b)) w := by
  simp only [binOp]
  simp [Op.equal, Op.maxDepth, eqIn_iface_int w 9998 a b hi hn hinfo hcomp]
theorem errnoComp : (Tryz.prog.info? 31).map (·.comparable) = some true := by kernel_rfl
theorem eq_errno (a b : Int) (w : World) : (binOp .eql 27 (.iface 31 (.int .i64 a)) (.iface 31 (.int .i64 b))).run Tryz.prog w = .ok (.bool (a == b)) w := by
  obtain ⟨i, hi, hc⟩ := Option.map_eq_some_iff.1 errnoComp
  exact eq_iface_int w a b Tryz.underlying27 Tryz.underlying31 hi hc
theorem eq_fault_errno (x y : Value) (w : World) : (binOp .eql 27 (.iface 143 x) (.iface 31 y)).run Tryz.prog w = .ok (.bool false) w :=
  run_eql_iface_types (P := Tryz.prog) 143 31 x y Tryz.underlying27 (by decide) w

/-! ### closed facts -/
theorem typeOf_errno (v : Value) (w : World) : (Extern.ReflectliteType.typeOf #[.iface 31 v]).run Tryz.prog w = .ok (.iface 170 (.agg #[.pointer (some ⟨1, 31, none⟩)])) w := by kernel_rfl
theorem typeOf_fault (v : Value) (w : World) : (Extern.ReflectliteType.typeOf #[.iface 143 v]).run Tryz.prog w = .ok (.iface 170 (.agg #[.pointer (some ⟨1, 143, none⟩)])) w := by kernel_rfl
def compF : Array Value → Sem Value := Extern.ReflectliteType.method fun t => do Extern.Rtype.noPackHeld "Comparable" t; pure (.bool (← typeInfo t).comparable)
theorem comparable_errno (w : World) : (compF #[.agg #[.pointer (some ⟨1, 31, none⟩)]]).run Tryz.prog w = .ok (.bool true) w := by kernel_rfl
theorem method_comparable (v : Value) (w : World) : (Go.method 354 170 v "Comparable").run Tryz.prog w = .ok (168, v) w := by kernel_rfl
theorem noIs_errno (v : Value) (xT : TypeId) (w : World) : (Instr.typeAssert (.iface 31 v) xT 195 true).run Tryz.prog w = .ok (.tuple #[.nilIface, .bool false]) w := run_typeAssert_lacksB Tryz.underlying195 (by kernel_rfl) (by kernel_rfl) v xT w
theorem noIs_fault (v : Value) (xT : TypeId) (w : World) : (Instr.typeAssert (.iface 143 v) xT 195 true).run Tryz.prog w = .ok (.tuple #[.nilIface, .bool false]) w := run_typeAssert_lacksB Tryz.underlying195 (by kernel_rfl) (by kernel_rfl) v xT w
theorem noUn_errno (v : Value) (xT : TypeId) (w : World) : (Instr.typeAssert (.iface 31 v) xT 177 true).run Tryz.prog w = .ok (.tuple #[.nilIface, .bool false]) w := run_typeAssert_lacksB Tryz.underlying177 (by kernel_rfl) (by kernel_rfl) v xT w
theorem noUns_errno (v : Value) (xT : TypeId) (w : World) : (Instr.typeAssert (.iface 31 v) xT 178 true).run Tryz.prog w = .ok (.tuple #[.nilIface, .bool false]) w := run_typeAssert_lacksB Tryz.underlying178 (by kernel_rfl) (by kernel_rfl) v xT w
theorem un_fault (v : Value) (xT : TypeId) (w : World) : (Instr.typeAssert (.iface 143 v) xT 177 true).run Tryz.prog w = .ok (.tuple #[.iface 143 v, .bool true]) w := run_typeAssert_hasB Tryz.underlying177 (by kernel_rfl) v xT w
theorem method_unwrap (v : Value) (w : World) : (Go.method 354 143 v "Unwrap").run Tryz.prog w = .ok (165, v) w := by kernel_rfl

/-- What stands at the chain's next place is no nil. -/
theorem Err.form {w : World} {e : Int} {l : List (ByteArray × Int)} {v : Value} (h : Err w e l v) : ∃ (t : TypeId) (x : Value), v = .iface t x := by
  cases l with
  | nil => exact ⟨_, _, h⟩
  | cons s l => obtain ⟨b, u, rfl, _⟩ := h; exact ⟨_, _, rfl⟩

def BoolIsq1 (w : World) (x : Bool) (r : Ending) (w' : World) : Prop := r = .returned (.bool x) ∧ w = w'

theorem is_err {w : World} {e : Int} {l : List (ByteArray × Int)} {v : Value} (t : Int) (h : Err w e l v) : Calls Tryz.prog 96 #[v, .iface 31 (.int .i64 t), .bool true] w (BoolIsq1 w (e == t)) := by
  have H := Lib.hid h
  clear h
  have q1 := eq_errno
  have q2 := eq_fault_errno
  have nE := noIs_errno
  have nF := noIs_fault
  have uE := noUn_errno
  have vE := noUns_errno
  have uF := un_fault
  have mU := method_unwrap
  go_enter Tryz.func96, Tryz.ntmps96
  go_wp2_with fail
  go_loopg [0] l.length (fun k u wr => w = wr ∧ ∃ l' : List (ByteArray × Int), l'.length = k ∧ Err w e l' u)
  case atStart => exact ⟨rfl, l, rfl, H.out⟩
  case round =>
    clear H
    obtain ⟨rfl, l', hk, hm⟩ := hrel
    have HK := Lib.hid hk
    clear hk
    cases l' with
    | nil =>
      obtain rfl : _ = _ := hm
      cases ht : (e == t) with
      | true =>
        go_wp2
        go_ret
        exact ⟨rfl, rfl⟩
      | false =>
        go_wp2
        go_ret
        exact ⟨rfl, rfl⟩
    | cons s l2 =>
      obtain ⟨b, u, rfl, hlt, h0, h1, h2, hr⟩ := hm
      obtain ⟨tt, x, rfl⟩ := hr.form
      have HR := Lib.hid hr
      clear hr
      go_wp2_with fail
      refine (unwrap_some b _ _ h2).mono ?_
      rintro r w' ⟨rfl, rfl⟩
      go_wp2_with fail
      go_roundg l2.length
      case rel => exact ⟨rfl, l2, rfl, HR.out⟩
      case measure => have := HK.out; simp at this; omega

theorem eIs_err {w : World} {e : Int} {l : List (ByteArray × Int)} {v : Value} (t : Int) (h : Err w e l v) : Calls Tryz.prog 57 #[v, .iface 31 (.int .i64 t)] w (BoolIsq1 w (e == t)) := by
  obtain ⟨tt, x, rfl⟩ := h.form
  have H := Lib.hid h
  clear h
  have h8 := @run_callFunc_extern Tryz.prog 95 _ Extern.ReflectliteType.typeOf Tryz.func95 (by kernel_rfl) (by kernel_rfl) (by kernel_rfl) (by kernel_rfl)
  have h32 := @run_callFunc_extern Tryz.prog 168 _ compF Tryz.func168 (by kernel_rfl) (by kernel_rfl) (by kernel_rfl) (by kernel_rfl)
  have tT := typeOf_errno
  have cT := comparable_errno
  have mR := method_comparable
  go_enter Tryz.func57, Tryz.ntmps57
  go_wp2_with (go_at_call 96; refine (is_err t H.out).mono ?_; rintro r w' ⟨rfl, rfl⟩)
  go_ret
  exact ⟨rfl, rfl⟩

end Go.Proofs.YthmpimjmajoimaaGreatDoor
namespace Go.Proofs.YthmpimjmajoimaaGreatDoor
open Go.RowKit Go.Extern.Stop Go.Stop Go.Extern

theorem e_typeOfF (v : Value) (w : World) : (tOfF #[.iface 143 v]).run Tryz.prog w = .ok (.iface 170 (hnd 143)) w := by kernel_rfl
theorem e_assignF (w : World) : (rtAssignF #[hnd 143, .iface 170 (hnd 31)]).run Tryz.prog w = .ok (.bool false) w := by kernel_rfl
theorem e_noAs (v : Value) (xT : TypeId) (w : World) : (Instr.typeAssert (.iface 143 v) xT 174 true).run Tryz.prog w = .ok (.tuple #[.nilIface, .bool false]) w := run_typeAssert_lacksB Tryz.underlying174 (by kernel_rfl) (by kernel_rfl) v xT w

set_option maxHeartbeats 1000000 in
theorem as_err {w : World} {e : Int} {l : List (ByteArray × Int)} {v : Value} (a t : Addr) (old : Value) (h : Err w e l v) (ha : w.cell? a = some (.pointer (some t))) (ht : w.cell? t = some old) (hf : w.frozen? t = false) :
    Calls Tryz.prog 72 #[v, .iface 86 (.pointer (some t)), valP a, .iface 170 (hnd 31)] w (AsIs w a t e) := by
  have hal := lt_of_cell ha
  have htl := lt_of_cell ht
  have h32 := @run_callFunc_extern Tryz.prog 95 _ tOfF Tryz.func95 (by kernel_rfl) (by kernel_rfl) (by kernel_rfl) (by kernel_rfl)
  have h75 := @run_callFunc_extern Tryz.prog 167 _ rtAssignF Tryz.func167 (by kernel_rfl) (by kernel_rfl) (by kernel_rfl) (by kernel_rfl)
  have h37 := @run_callFunc_extern Tryz.prog 99 _ vElemF Tryz.func99 (by kernel_rfl) (by kernel_rfl) (by kernel_rfl) (by kernel_rfl)
  have h38 := @run_callFunc_extern Tryz.prog 100 _ vSetF Tryz.func100 (by kernel_rfl) (by kernel_rfl) (by kernel_rfl) (by kernel_rfl)
  have h28 := @run_callFunc_extern Tryz.prog 69 _ vOfF Tryz.func69 (by kernel_rfl) (by kernel_rfl) (by kernel_rfl) (by kernel_rfl)
  have k1 := e_typeOfE
  have k2 := e_typeOfF
  have k3 := e_assignE
  have k4 := e_assignF
  have k5 := e_mAssign
  have k6 := e_valueOfE
  have k7 := e_noAs
  have k8 := un_fault
  have k9 := method_unwrap
  have kE := e_elemV a t (w.alloc (.cells #[.pointer (some ⟨1, 86, none⟩), .pointer (some a), .int .u64 150] 133)) (by rw [World.cell?_alloc_lt _ _ a hal]; exact ha)
  have kS := e_set t ⟨w.heap.size + 1, 0, none⟩ e old ((w.alloc (.cells #[.pointer (some ⟨1, 86, none⟩), .pointer (some a), .int .u64 150] 133)).alloc (.cells #[.int .i64 e] 31))
    (by rw [World.cell?_alloc_at _ _ _ _ (by simp)]; rfl)
    (by rw [World.cell?_alloc_lt _ _ t (by simp; omega), World.cell?_alloc_lt _ _ t htl]; exact ht)
    (by rw [World.frozen?_alloc_old _ _ t (by simp; omega), World.frozen?_alloc_old _ _ t (Nat.ne_of_lt htl)]; exact hf)
  have H := Lib.hid h
  clear h ha ht hf
  go_enter Tryz.func72, Tryz.ntmps72
  go_wp2_with fail
  go_loopg [0] l.length (fun k u wr => w.alloc (.cells #[.pointer (some ⟨1, 86, none⟩), .pointer (some a), .int .u64 150] 133) = wr ∧ ∃ l' : List (ByteArray × Int), l'.length = k ∧ Err w e l' u)
  case atStart => exact ⟨rfl, l, rfl, H.out⟩
  case round =>
    clear H
    obtain ⟨rfl, l', hk, hm⟩ := hrel
    have HK := Lib.hid hk
    clear hk
    cases l' with
    | nil =>
      obtain rfl : _ = _ := hm
      go_wp2
      go_ret
      exact ⟨rfl, rfl⟩
    | cons s l2 =>
      obtain ⟨b, u, rfl, hlt, h0, h1, h2, hr⟩ := hm
      obtain ⟨tt, x, rfl⟩ := hr.form
      have HR := Lib.hid hr
      clear hr
      go_wp2_with fail
      refine (unwrap_some b _ _ ((World.cell?_alloc_lt _ _ ⟨b, 2, none⟩ hlt).trans h2)).mono ?_
      rintro r w' ⟨rfl, rfl⟩
      go_wp2_with fail
      go_roundg l2.length
      case rel => exact ⟨rfl, l2, rfl, HR.out⟩
      case measure => have := HK.out; simp at this; omega
end Go.Proofs.YthmpimjmajoimaaGreatDoor
namespace Go.Proofs.YthmpimjmajoimaaGreatDoor
open Go.RowKit Go.Extern.Stop Go.Stop Go.Extern

set_option maxHeartbeats 1000000 in
theorem eAs_err {w : World} {e : Int} {l : List (ByteArray × Int)} {v : Value} (t : Addr) (old : Value) (hg : Gl w) (h : Err w e l v) (ht : w.cell? t = some old) (hf : w.frozen? t = false) :
    Calls Tryz.prog 34 #[v, .iface 86 (.pointer (some t))] w (AsDone w t e) := by
  have htl := lt_of_cell ht
  have hgl := lt_of_cell hg
  have h28 := @run_callFunc_extern Tryz.prog 69 _ vOfF Tryz.func69 (by kernel_rfl) (by kernel_rfl) (by kernel_rfl) (by kernel_rfl)
  have h29 := @run_callFunc_extern Tryz.prog 70 _ vTypeF Tryz.func70 (by kernel_rfl) (by kernel_rfl) (by kernel_rfl) (by kernel_rfl)
  have h30 := @run_callFunc_extern Tryz.prog 71 _ vIsNilF Tryz.func71 (by kernel_rfl) (by kernel_rfl) (by kernel_rfl) (by kernel_rfl)
  have h66 := @run_callFunc_extern Tryz.prog 157 _ kindF Tryz.func157 (by kernel_rfl) (by kernel_rfl) (by kernel_rfl) (by kernel_rfl)
  have h77 := @run_callFunc_extern Tryz.prog 169 _ rtElemF Tryz.func169 (by kernel_rfl) (by kernel_rfl) (by kernel_rfl) (by kernel_rfl)
  have h78 := @run_callFunc_extern Tryz.prog 170 _ rtImplF Tryz.func170 (by kernel_rfl) (by kernel_rfl) (by kernel_rfl) (by kernel_rfl)
  have k1 := e_valueOfP
  have k2 := e_typeP
  have k3 := e_mKind
  have k4 := e_kindP
  have k5 := e_kindE
  have k6 := e_mElem
  have k7 := e_elemP
  have k8 := e_mImpl
  have k9 := e_implE
  have kN := e_isNil ⟨w.heap.size, 0, none⟩ t ((w.alloc (.cells #[.pointer (some t)] 86)).alloc (.cells #[.pointer (some ⟨1, 86, none⟩), .pointer (some ⟨w.heap.size, 0, none⟩), .int .u64 150] 133)) (by simp)
  have hg2 : ((w.alloc (.cells #[.pointer (some t)] 86)).alloc (.cells #[.pointer (some ⟨1, 86, none⟩), .pointer (some ⟨w.heap.size, 0, none⟩), .int .u64 150] 133)).cell? ⟨0, 0, none⟩ = some (.iface 170 (hnd 27)) := by
    rw [World.cell?_alloc_lt _ _ ⟨0, 0, none⟩ (by simp), World.cell?_alloc_lt _ _ ⟨0, 0, none⟩ hgl]; exact hg
  have HB := Lib.hid (((Below.refl w.heap.size w).alloc (Nat.le_refl _) (.cells #[.pointer (some t)] 86)).alloc (by simp) (.cells #[.pointer (some ⟨1, 86, none⟩), .pointer (some ⟨w.heap.size, 0, none⟩), .int .u64 150] 133))
  have HT := Lib.hid ((HB.out.cell (p := t) htl).trans ht)
  have HF := Lib.hid ((HB.out.frozen (p := t) htl).trans hf)
  have HA : Hid (((w.alloc (.cells #[.pointer (some t)] 86)).alloc (.cells #[.pointer (some ⟨1, 86, none⟩), .pointer (some ⟨w.heap.size, 0, none⟩), .int .u64 150] 133)).cell? ⟨w.heap.size, 0, none⟩ = some (.pointer (some t))) := Lib.hid (by simp)
  have H := Lib.hid (h.below HB.out)
  obtain ⟨tt, x, rfl⟩ := h.form
  clear h ht hf hg
  go_enter Tryz.func34, Tryz.ntmps34
  go_wp2_with (go_at_call 72; refine (as_err _ t old H.out HA.out HT.out HF.out).mono ?_; rintro r w' ⟨rfl, rfl⟩)
  go_ret
  refine ⟨rfl, asWorld_cell HT.out, fun B h1 h2 => ?_⟩
  exact (HB.out.mono h2).trans (asWorld_below h1 (by simp; omega))

theorem code_err {w : World} {e : Int} {l : List (ByteArray × Int)} {v : Value} (hg : Gl w) (h : Err w e l v) : Calls Tryz.prog 13 #[v] w (CodeIs w e) := by
  have HB := Lib.hid ((Below.refl w.heap.size w).alloc (Nat.le_refl _) (.cells #[.int .i64 0] 31))
  have H := Lib.hid (h.below HB.out)
  have HG := Lib.hid (hg.below HB.out)
  clear h hg
  go_enter Tryz.func13, Tryz.ntmps13
  go_wp2_with (go_at_call 34; refine (eAs_err ⟨w.heap.size, 0, none⟩ (.int .i64 0) HG.out H.out (by simp) (by simp)).mono ?_; rintro r w' ⟨rfl, hc, hb⟩; have HX := Lib.hid hb; clear hb)
  go_ret
  exact ⟨rfl, HB.out.trans (HX.out _ (Nat.le_refl _) (by simp))⟩
end Go.Proofs.YthmpimjmajoimaaGreatDoor
namespace Go.Proofs.YthmpimjmajoimaaGreatDoor
open Go.RowKit

/-- v tells the code k: none, or a fault that lies in F, around the code. -/
def slEr (F : Nat → Prop) (w : World) (k : Int) (v : Value) : Prop :=
  (k = 0 ∧ v = .nilIface) ∨ (k ≠ 0 ∧ ∃ (b : Nat) (op : ByteArray) (n : Int), v = .iface 143 (.pointer (some ⟨b, 0, none⟩)) ∧ F b ∧ Blk w b 145 [.string op, .int .i64 n, .iface 31 (.int .i64 k)])
theorem slEr.err {F : Nat → Prop} {w : World} {k : Int} {v : Value} (h : slEr F w k v) (hk : k ≠ 0) : ∃ op n, Err w k [(op, n)] v := by
  rcases h with ⟨h0, _⟩ | ⟨_, b, op, n, rfl, _, hb⟩
  · exact absurd h0 hk
  · exact ⟨op, n, b, _, rfl, lt_of_block hb, hb.cell 0 (by simp), hb.cell 1 (by simp), hb.cell 2 (by simp), rfl⟩
theorem slEr.keep {F G : Nat → Prop} {w w' : World} {k : Int} {v : Value} (h : slEr F w k v) (hk : Kept G w w') (hn : ∀ j, F j → ¬ G j) : slEr F w' k v :=
  h.imp id (fun ⟨h0, b, op, n, e, hb, hx⟩ => ⟨h0, b, op, n, e, hb, hk.blk hx (hn b hb)⟩)
theorem slEr.mono {F G : Nat → Prop} {w : World} {k : Int} {v : Value} (h : slEr F w k v) (hf : ∀ j, F j → G j) : slEr G w k v :=
  h.imp id (fun ⟨h0, b, op, n, e, hb, hx⟩ => ⟨h0, b, op, n, e, hf b hb, hx⟩)
theorem slEr.up {F : Nat → Prop} {w w' : World} {k : Int} {v : Value} (h : slEr F w k v) (hb : Below w.heap.size w w') : slEr F w' k v := h.keep (G := fun _ => False) (Kept.of_below hb) (fun _ _ => id)
theorem slEr.no {F : Nat → Prop} {w : World} : slEr F w 0 .nilIface := .inl ⟨rfl, rfl⟩
theorem slEr.some {F : Nat → Prop} {w : World} {k : Int} {v : Value} (h : slEr F w k v) (hk : k ≠ 0) : ∃ b, v = .iface 143 (.pointer (some ⟨b, 0, none⟩)) :=
  h.elim (fun x => absurd x.1 hk) (fun ⟨_, b, _, _, e, _⟩ => ⟨b, e⟩)
/-- The landed slots' errors. -/
noncomputable def slX : EOps where
  E := slEr
  keep := fun h hk hn => h.keep hk hn
  mono := fun h hf => h.mono hf
  none := fun h => h.elim (fun x => x.2) (fun x => absurd rfl x.1)
  some := fun h hk => by
    obtain ⟨b, e⟩ := slEr.some h hk
    exact ⟨_, _, e⟩
  code := by
    intro F w k v h hg
    by_cases hk : k = 0
    · subst hk
      obtain rfl : v = .nilIface := h.elim (fun x => x.2) (fun x => absurd rfl x.1)
      exact code_nil w
    · obtain ⟨op, n, he⟩ := slEr.err h hk
      exact code_err hg he
/-- What Wrap tells. -/
def WrapIs (k : Int) (w : World) (r : Ending) (w' : World) : Prop := ∃ v, r = .returned v ∧ slEr (newB w w') w' k v ∧ Below w.heap.size w w'
theorem slwrap_at (op : ByteArray) (n k : Int) (w : World) : Calls Tryz.prog 38 #[.string op, .int .i64 n, errV k] w (WrapIs k w) := by
  by_cases hk : k = 0
  · subst hk
    refine (wrap_nil op n w).mono ?_
    rintro r w' ⟨rfl, rfl⟩
    exact ⟨_, rfl, slEr.no, Below.refl _ _⟩
  · rw [show errV k = .iface 31 (.int .i64 k) from if_neg hk]
    refine (wrap_errno op n k w (by simpa using hk)).mono ?_
    rintro r w' ⟨rfl, rfl⟩
    exact ⟨_, rfl, .inr ⟨hk, _, op, n, rfl, ⟨Nat.le_refl _, by simp⟩, heap_alloc_new w _⟩, (Below.refl _ _).alloc (Nat.le_refl _) _⟩
theorem eq_nil_errno (t : Int) (w : World) : (binOp .eql 27 .nilIface (.iface 31 (.int .i64 t))).run Tryz.prog w = .ok (.bool false) w := by kernel_rfl
set_option maxRecDepth 100000 in
theorem eIs_none (t : Int) (w : World) : Calls Tryz.prog 57 #[.nilIface, .iface 31 (.int .i64 t)] w (BoolIsq1 w false) := by
  have h := eq_nil_errno
  go_enter Tryz.func57, Tryz.ntmps57
  go_wp2
  go_ret
  exact ⟨rfl, rfl⟩
theorem slIs_at {F : Nat → Prop} {w : World} {k : Int} {v : Value} (t : Int) (ht : t ≠ 0) (h : slEr F w k v) : Calls Tryz.prog 57 #[v, .iface 31 (.int .i64 t)] w (BoolIsq1 w (decide (k = t))) := by
  by_cases hk : k = 0
  · subst hk
    obtain rfl : v = .nilIface := h.elim (fun x => x.2) (fun x => absurd rfl x.1)
    rw [show decide ((0 : Int) = t) = false by simpa using fun e => ht e.symm]
    exact eIs_none t w
  · obtain ⟨op, n, he⟩ := h.err hk
    exact eIs_err t he
end Go.Proofs.YthmpimjmajoimaaGreatDoor
