/-
  The document's device: New.
  The document's device: a crash: zones anew, one by one.
  The document's device: Crash.
  The document's device: Load: mathematics; a zone while its pages are laid.
  The document's device: Load.
  The landed device's calls as one bundle of contracts; acts in memory; large.
-/
import Derived.Test.YthmpimjmajoimaaGreatDoorSw06
import Derived.Deep.DeepCutAuto
import Derived.Deep.CutBlock
import Derived.Test.YthmpimjmajoimaaGreatDoorSw01
namespace Go.Proofs.YthmpimjmajoimaaGreatDoor
open Go.RowKit

/-- The cells of n empty zones. -/
def zCells : Nat → List Value
  | 0 => []
  | n + 1 => zCells n ++ [.slice none 0 0, .int .i64 0, .bool false]
theorem zCells_len (n : Nat) : (zCells n).length = n * 3 := by
  induction n with
  | zero => rfl
  | succ n ih => simp only [zCells, List.length_append, ih, List.length_cons, List.length_nil]; omega
theorem zCells_get (n i : Nat) (h : i < n) : (zCells n)[i * 3]? = some (.slice none 0 0) ∧ (zCells n)[i * 3 + 1]? = some (.int .i64 0) ∧ (zCells n)[i * 3 + 2]? = some (.bool false) := by
  induction n with
  | zero => omega
  | succ n ih =>
    have hl := zCells_len n
    by_cases hi : i < n
    · obtain ⟨a, b, c⟩ := ih hi
      simp only [zCells]
      rw [List.getElem?_append_left (by omega), List.getElem?_append_left (by omega), List.getElem?_append_left (by omega)]
      exact ⟨a, b, c⟩
    · obtain rfl : i = n := by omega
      simp only [zCells]
      rw [List.getElem?_append_right (by omega), List.getElem?_append_right (by omega), List.getElem?_append_right (by omega), hl]
      simp
theorem infoZone : (Tryz.prog.info? 84).map (fun i => (i.zero, i.size, i.bytes)) = some (some (.agg #[.slice none 0 0, .int .i64 0, .bool false]), 3, 40) := by kernel_rfl
/-- Empty zones of the call's own. -/
def ZOwn (w : World) (base : Nat) (v : Value) (n : Nat) : Prop := w.ownsRow base 84 3 v n (zCells n)
theorem ZOwn.up {w w' : World} {base : Nat} {v : Value} {n : Nat} (h : ZOwn w base v n) (hb : Below w.heap.size w w') : ZOwn w' base v n :=
  ⟨h.1, h.2.imp id fun ⟨g', c', cur, hv, hg, hc, r⟩ => ⟨g', c', cur, hv, hg, (hb.block g' (lt_of_block hc)).trans hc, r⟩⟩
theorem ZOwn.far {w w' : World} {base : Nat} {v : Value} {n k : Nat} (h : ZOwn w base v n) (hk : Kept (fun j => j = k) w w') (hb : k < base) : ZOwn w' base v n :=
  ⟨h.1, h.2.imp id fun ⟨g', c', cur, hv, hg, hc, r⟩ => ⟨g', c', cur, hv, hg, (hk.block g' (lt_of_block hc) (fun e => by subst e; omega)).trans hc, r⟩⟩
theorem ZOwn.own {w : World} {base : Nat} {v : Value} {n : Nat} (h : ZOwn w base v n) : ∀ j, v.ownBlock = some j → base ≤ j ∧ j < w.heap.size := by
  rcases h.2 with ⟨rfl, _⟩ | ⟨g, cap, cur, rfl, hb, hg, _⟩
  · intro j hj
    cases hj
  · intro j hj
    simp [Value.ownBlock] at hj
    subst hj
    exact ⟨hb, lt_of_block hg⟩
theorem ZOwn.out {w : World} {base : Nat} {v : Value} {n : Nat} (h : ZOwn w base v n) (hn : 0 < n) : ∃ g cap cur, v = .slice (some ⟨g, 0, none⟩) n cap ∧ base ≤ g ∧ Blk w g 84 cur ∧ n ≤ cap ∧ cur.length = 3 * cap ∧
    ∀ i, i < n → cur[i * 3]? = some (.slice none 0 0) ∧ cur[i * 3 + 1]? = some (.int .i64 0) ∧ cur[i * 3 + 2]? = some (.bool false) := by
  rcases h.2 with ⟨rfl, h0⟩ | ⟨g, cap, cur, rfl, hb, hg, hc, _, hs, ht⟩
  · omega
  · refine ⟨g, cap, cur.toList, rfl, hb, hg, hc, by rw [Array.length_toList, hs]; omega, fun i hi => ?_⟩
    obtain ⟨a, b, c⟩ := zCells_get n i hi
    have key : ∀ k x, (zCells n)[k]? = some x → cur.toList[k]? = some x := fun k x e => by
      rw [← ht, List.getElem?_take] at e
      split at e
      · exact e
      · cases e
    exact ⟨key _ _ a, key _ _ b, key _ _ c⟩

/-- append of an empty zone. -/
theorem appZ (w : World) {ops : Array Oper} {rest : List Oper} {o : Oper} {a : Act} {Q : Exit → Act → World → Prop} (hgd : o.guard = none) (s x : Operand) (ho : o.op = .call { callee := .builtin .append, args := #[s, x], argTypes := #[80, 80] })
    (base n c e : Nat) (v : Value) (hs : a.eval s = v) (hown : ZOwn w base v n) (hx : a.eval x = .slice (some ⟨e, 0, none⟩) 1 c) (he : Blk w e 84 [.slice none 0 0, .int .i64 0, .bool false]) (hn : n ≤ 1000) (hbase : base ≤ w.heap.size)
    (h : ∀ v' w', ZOwn w' base v' (n + 1) → w.grownBy w' v.ownBlock → wpList Tryz.prog ops Q rest (a.put o.dst v') w') : wpList Tryz.prog ops Q (o :: rest) a w := by
  obtain ⟨i0, hi, hz0, hz1, hz2⟩ := info_parts infoZone
  refine wpList_append_own w hgd s x 80 ho base 84 i0 (.agg #[.slice none 0 0, .int .i64 0, .bool false]) 3 40 Tryz.underlying80 hi hz0 hz1 hz2 rfl (by decide) v n (zCells n) hs hown ⟨e, 0, none⟩ 1 c [.slice none 0 0, .int .i64 0, .bool false] hx rfl ?_ ?_ (by unfold maxLen; omega) (by omega) hbase ?_
  · intro j u hj
    obtain ⟨hjl, rfl⟩ := List.getElem?_eq_some_iff.1 hj
    have := he.cell j hjl
    rcases j with _ | j
    · simpa [Addr.add] using this
    · simpa [Addr.add] using this
  · intro u hu
    simp at hu
    rcases hu with rfl | rfl | rfl <;> rfl
  · intro v' w' h2 h3 _
    exact h v' w' h2 h3

def newD (n p : Int) : Option DevS := if 1 ≤ n ∧ n ≤ 24 ∧ 1 ≤ p ∧ p ≤ 16 then some (DevS.new n.toNat p.toNat) else none
/-- What New and Load answer. -/
def MadeIs (o : Option DevS) (w : World) (r : Ending) (w' : World) : Prop :=
  match o with
  | none => r = .returned (.tuple #[.pointer none, .int .i64 1]) ∧ Below w.heap.size w w'
  | some S => ∃ db, r = .returned (.tuple #[.pointer (some ⟨db, 0, none⟩), .int .i64 0]) ∧ RDev (fun k => w.heap.size ≤ k ∧ k < w'.heap.size) w' db S ∧ Below w.heap.size w w'
/-- A new device, whose zones' pages are nil. -/
def NewIs (n p : Nat) (w : World) (r : Ending) (w' : World) : Prop := ∃ db zb cap zs, r = .returned (.tuple #[.pointer (some ⟨db, 0, none⟩), .int .i64 0]) ∧ RD (fun k => w.heap.size ≤ k ∧ k < w'.heap.size) w' db zb cap zs (DevS.new n p) ∧ (∀ i, i < n → zs[i * 3]? = some (.slice none 0 0)) ∧ Below w.heap.size w w'
theorem new_end {w wr : World} {n p db : Nat} {V : Value} (hdb : w.heap.size ≤ db) (hB : Blk wr db 82 [V, .int .i64 (p : Int), .int .i64 (-1), .int .i64 0, .bool false]) (hZ : ZOwn wr (db + 1) V n) (hn : 1 ≤ n) (hn2 : n ≤ 24) (hp : 1 ≤ p) (hp2 : p ≤ 16) : ∃ zb cap zs, RD (fun k => w.heap.size ≤ k ∧ k < wr.heap.size) wr db zb cap zs (DevS.new n p) ∧ ∀ i, i < n → zs[i * 3]? = some (.slice none 0 0) := by
  obtain ⟨g, cap, cur, rfl, hg, hb, hc, hl, hx⟩ := hZ.out (by omega)
  refine ⟨g, cap, cur, ⟨?_, hb, fun i hi => ?_, by simpa [DevS.new] using hc, hl, ⟨hdb, lt_of_block hB⟩, ⟨by omega, lt_of_block hb⟩, by omega, fun k hk => hk.2, DevS.new_wf hn hn2 hp hp2⟩, fun i hi => (hx i hi).1⟩
  · simpa [DevS.new] using hB
  · have hi' : i < n := by simpa [DevS.new] using hi
    obtain ⟨a, b, c⟩ := hx i hi'
    refine ⟨_, a, ?_, ?_, ?_⟩
    · simpa [DevS.new, ZoneS.empty] using b
    · simpa [DevS.new, ZoneS.empty] using c
    · simp only [DevS.new, List.getElem_replicate, ZoneS.empty]
      exact RowsF.nil _ _
set_option maxHeartbeats 1000000 in
theorem rnew_yes {w : World} (n p : Nat) (hn : 1 ≤ n) (hn2 : n ≤ 24) (hp : 1 ≤ p) (hp2 : p ≤ 16) : Calls Tryz.prog 10 #[.int .i64 (n : Int), .int .i64 (p : Int)] w (NewIs n p w) := by
  have HN := Lib.hid (And.intro hn (And.intro hn2 (And.intro hp hp2)))
  have d1 : decide ((n : Int) < 1) = false := by simp; omega
  have d2 : decide ((24 : Int) < (n : Int)) = false := by simp; omega
  have d3 : decide ((p : Int) < 1) = false := by simp; omega
  have d4 : decide ((16 : Int) < (p : Int)) = false := by simp; omega
  clear hn hp
  go_enter Tryz.func10, Tryz.ntmps10
  go_wp2_with fail
  go_loopg [7] n (fun q x wr => ∃ (i : Nat) (V : Value), i ≤ n ∧ q = n - i ∧ x = .int .i64 i ∧ Blk wr w.heap.size 82 [V, .int .i64 (p : Int), .int .i64 (-1), .int .i64 0, .bool false] ∧ ZOwn wr (w.heap.size + 1) V i ∧ Below w.heap.size w wr)
  case atStart =>
    refine ⟨0, .slice none 0 0, by omega, by omega, rfl, ?_, ⟨rfl, .inl ⟨rfl, rfl⟩⟩, Below.alloc (Below.refl _ _) (Nat.le_refl _) _⟩
    exact heap_alloc_new w _
  case round =>
    obtain ⟨i, V, hi, hq, rfl, hB, hZ, hbl⟩ := hrel
    have HQ := Lib.hid hq
    have HB := Lib.hid hB
    have HZ := Lib.hid hZ
    have HL := Lib.hid hbl
    have c0 : wr.cell? ⟨w.heap.size, 0, none⟩ = some V := hB.cell 0 (by simp)
    have f0 : wr.frozen? ⟨w.heap.size, 0, none⟩ = false := hB.free 0
    have hlt := lt_of_block hB
    clear hq hB hZ hbl
    by_cases hin : i < n
    · have HBE : Hid (Below w.heap.size w (wr.alloc (.cells #[.slice none 0 0, .int .i64 0, .bool false] 84))) := Lib.hid (HL.out.alloc HL.out.size _)
      have HE : Hid (Blk (wr.alloc (.cells #[.slice none 0 0, .int .i64 0, .bool false] 84)) wr.heap.size 84 [.slice none 0 0, .int .i64 0, .bool false]) := Lib.hid (heap_alloc_new wr _)
      have HZE : Hid (ZOwn (wr.alloc (.cells #[.slice none 0 0, .int .i64 0, .bool false] 84)) (w.heap.size + 1) V i) := Lib.hid (HZ.out.up (Below.alloc (Below.refl _ _) (Nat.le_refl _) _))
      have HBW : Hid (Blk (wr.alloc (.cells #[.slice none 0 0, .int .i64 0, .bool false] 84)) w.heap.size 82 [V, .int .i64 (p : Int), .int .i64 (-1), .int .i64 0, .bool false]) := Lib.hid (HB.out.up (Below.alloc (Below.refl wr.heap.size wr) (Nat.le_refl _) _) hlt)
      go_wp2_with (first
        | (at_builtin; refine appZ _ rfl (.tmp 34) (.tmp 36) rfl (w.heap.size + 1) i 1 wr.heap.size V rfl HZE.out rfl HE.out ?h1a ?h1b ?_; (case h1a => omega); (case h1b => rw [World.size_alloc]; omega); intro v2 w2 hown hgr; obtain ⟨g2, cap2, rfl⟩ : ∃ g cap, v2 = .slice (some ⟨g, 0, none⟩) (i + 1) cap := (by obtain ⟨g, cap, _, e, _⟩ := hown.out (by omega); exact ⟨g, cap, e⟩); have HZ2 := Lib.hid hown; have HB2 := Lib.hid (HBW.out.kept hgr (fun e => by have := HZE.out.own _ e.symm; omega)); have HL2 := Lib.hid (HBE.out.grown hgr HBE.out.size (fun k e => by have := HZE.out.own _ e; omega)); have c2 : w2.cell? ⟨w.heap.size, 0, none⟩ = some V := HB2.out.cell 0 (by simp); have f2 : w2.frozen? ⟨w.heap.size, 0, none⟩ = false := HB2.out.free 0; clear hown hgr)
        | fail)
      go_roundg (n - (i + 1))
      case rel => exact ⟨i + 1, .slice (some ⟨g2, 0, none⟩) (i + 1) cap2, by omega, rfl, by go_num, HB2.out.put 0 _, HZ2.out.far (kept_put _ _ _ _) (by omega), HL2.out.setCell (Nat.le_refl _) _⟩
      case measure => have := HQ.out; omega
    · obtain rfl : i = n := by omega
      go_wp2_with fail
      go_ret2
      obtain ⟨zb, cap, zs, h1, h2⟩ := new_end (Nat.le_refl _) HB.out HZ.out HN.out.1 HN.out.2.1 HN.out.2.2.1 HN.out.2.2.2
      exact ⟨w.heap.size, zb, cap, zs, rfl, h1, h2, HL.out⟩
theorem rnew_no {w : World} (n p : Int) (h : ¬ (1 ≤ n ∧ n ≤ 24 ∧ 1 ≤ p ∧ p ≤ 16)) : Calls Tryz.prog 10 #[.int .i64 n, .int .i64 p] w (MadeIs none w) := by
  by_cases h1 : n < 1
  · have d1 : decide (n < 1) = true := by simpa using h1
    clear h
    go_enter Tryz.func10, Tryz.ntmps10
    go_wp2_with fail
    go_ret2
    exact ⟨rfl, Below.refl _ _⟩
  · have d1 : decide (n < 1) = false := by simpa using h1
    by_cases h2 : 24 < n
    · have d2 : decide (24 < n) = true := by simpa using h2
      clear h
      go_enter Tryz.func10, Tryz.ntmps10
      go_wp2_with fail
      go_ret2
      exact ⟨rfl, Below.refl _ _⟩
    · have d2 : decide (24 < n) = false := by simpa using h2
      by_cases h3 : p < 1
      · have d3 : decide (p < 1) = true := by simpa using h3
        clear h
        go_enter Tryz.func10, Tryz.ntmps10
        go_wp2_with fail
        go_ret2
        exact ⟨rfl, Below.refl _ _⟩
      · have d3 : decide (p < 1) = false := by simpa using h3
        have h4 : 16 < p := by omega
        have d4 : decide (16 < p) = true := by simpa using h4
        clear h
        go_enter Tryz.func10, Tryz.ntmps10
        go_wp2_with fail
        go_ret2
        exact ⟨rfl, Below.refl _ _⟩
theorem rnew_at {w : World} (n p : Int) : Calls Tryz.prog 10 #[.int .i64 n, .int .i64 p] w (MadeIs (newD n p) w) := by
  by_cases h : 1 ≤ n ∧ n ≤ 24 ∧ 1 ≤ p ∧ p ≤ 16
  · obtain ⟨a, rfl⟩ := Int.eq_ofNat_of_zero_le (show 0 ≤ n by omega)
    obtain ⟨b, rfl⟩ := Int.eq_ofNat_of_zero_le (show 0 ≤ p by omega)
    have e : newD (a : Int) (b : Int) = some (DevS.new a b) := by
      unfold newD
      rw [if_pos h]
      rfl
    rw [e]
    refine (rnew_yes a b (by omega) (by omega) (by omega) (by omega)).mono ?_
    rintro r w' ⟨db, zb, cap, zs, h1, h2, _, h4⟩
    exact ⟨db, h1, ⟨zb, cap, zs, h2⟩, h4⟩
  · have e : newD n p = none := by
      unfold newD
      rw [if_neg h]
    rw [e]
    exact rnew_no n p h
end Go.Proofs.YthmpimjmajoimaaGreatDoor
namespace Go.Proofs.YthmpimjmajoimaaGreatDoor
open Go.RowKit

/-- Zone number j behind a crash. -/
def crashAt (S : DevS) (keep : List Int) (tear : List Bool) (j : Nat) : ZoneS := DevS.crashZ (S.zones.getD j ZoneS.empty) (keep.getD j 0) (tear.getD j false)
/-- The first i zones have crashed. -/
def crashTo (S : DevS) (keep : List Int) (tear : List Bool) (i : Nat) : DevS := { S with zones := (List.range S.zones.length).map (fun j => if j < i then crashAt S keep tear j else S.zones.getD j ZoneS.empty) }
theorem crashTo_zero (S : DevS) (keep : List Int) (tear : List Bool) : crashTo S keep tear 0 = S := by
  have h : (List.range S.zones.length).map (fun j => if j < 0 then crashAt S keep tear j else S.zones.getD j ZoneS.empty) = S.zones := by
    refine List.ext_getElem (by simp) fun j h1 h2 => ?_
    simp [List.getD_eq_getElem?_getD, List.getElem?_eq_getElem h2]
  unfold crashTo
  rw [h]
theorem crashTo_all (S : DevS) (keep : List Int) (tear : List Bool) : { crashTo S keep tear S.zones.length with left := -1, gone := false } = S.crash keep tear := by
  have h : (List.range S.zones.length).map (fun j => if j < S.zones.length then crashAt S keep tear j else S.zones.getD j ZoneS.empty) = (List.range S.zones.length).map (fun j => crashAt S keep tear j) :=
    List.map_congr_left fun j hj => by rw [if_pos (List.mem_range.1 hj)]
  unfold crashTo DevS.crash
  simp only [h]
  rfl
theorem crashTo_len (S : DevS) (keep : List Int) (tear : List Bool) (i : Nat) : (crashTo S keep tear i).zones.length = S.zones.length := by simp [crashTo]
theorem crashTo_is {S : DevS} {keep : List Int} {tear : List Bool} {i : Nat} (h : i < S.zones.length) : (crashTo S keep tear i).is (i : Int) = true := DevS.is_iff.2 ⟨by omega, by rw [crashTo_len]; omega⟩
theorem crashTo_get {S : DevS} {keep : List Int} {tear : List Bool} {i : Nat} (h : i < S.zones.length) : (crashTo S keep tear i).zone (i : Int) = S.zones[i] := by
  rw [DevS.zone_out (crashTo_is h)]
  simp [crashTo, List.getD_eq_getElem?_getD, List.getElem?_eq_getElem h]
theorem crashAt_get {S : DevS} {keep : List Int} {tear : List Bool} {i : Nat} (h : i < S.zones.length) : crashAt S keep tear i = DevS.crashZ S.zones[i] (keep.getD i 0) (tear.getD i false) := by
  simp [crashAt, List.getD_eq_getElem?_getD, List.getElem?_eq_getElem h]
theorem crashTo_put {S : DevS} {keep : List Int} {tear : List Bool} {i : Nat} (_h : i < S.zones.length) : (crashTo S keep tear i).put (i : Int) (crashAt S keep tear i) = crashTo S keep tear (i + 1) := by
  have e : ((List.range S.zones.length).map (fun j => if j < i then crashAt S keep tear j else S.zones.getD j ZoneS.empty)).set i (crashAt S keep tear i) = (List.range S.zones.length).map (fun j => if j < i + 1 then crashAt S keep tear j else S.zones.getD j ZoneS.empty) := by
    refine List.ext_getElem (by simp) fun j h1 h2 => ?_
    by_cases hj : i = j
    · subst hj
      simp
    · rw [List.getElem_set_ne hj]
      simp only [List.getElem_map, List.getElem_range]
      by_cases h3 : j < i
      · rw [if_pos h3, if_pos (by omega)]
      · rw [if_neg h3, if_neg (by omega)]
  unfold crashTo DevS.put
  simp only [Int.toNat_natCast]
  rw [e]
theorem RowV.le {w : World} {base base' : Nat} {T : TypeId} {v : Value} {vs : List Value} (h : RowV w base T v vs) (hb : base' ≤ base) : RowV w base' T v vs :=
  ⟨h.1, h.2.imp id fun ⟨g', c', cur, hv, hg, r⟩ => ⟨g', c', cur, hv, Nat.le_trans hb hg, r⟩⟩
end Go.Proofs.YthmpimjmajoimaaGreatDoor
namespace Go.Proofs.YthmpimjmajoimaaGreatDoor
open Go.RowKit

def kCells (l : List Int) : List Value := l.map (fun k => .int .i64 k)
def tCells (l : List Bool) : List Value := l.map (fun b => .bool b)
end Go.Proofs.YthmpimjmajoimaaGreatDoor
namespace Go.Proofs.YthmpimjmajoimaaGreatDoor
open Go.RowKit

/-- A page that may be loaded; a zone of them. -/
def pageOk (b : List Int) : Bool := decide (b.length = 0) || decide (b.length = 33)
def zoneOk (p : Nat) (z : List (List Int)) : Bool := decide (z.length ≤ p) && z.all pageOk
def loadZ (z : List (List Int)) : ZoneS := ⟨z, z.length, false⟩
/-- The first i zones are loaded. -/
def loadTo (n p : Nat) (l : List (List (List Int))) (i : Nat) : DevS := ⟨(List.range n).map (fun j => if j < i then loadZ (l.getD j []) else ZoneS.empty), p, -1, 0, false⟩
def loadD (p : Int) (l : List (List (List Int))) : Option DevS := if (1 ≤ l.length ∧ l.length ≤ 24 ∧ 1 ≤ p ∧ p ≤ 16) ∧ l.all (zoneOk p.toNat) = true then some (loadTo l.length p.toNat l l.length) else none
theorem loadTo_zero (n p : Nat) (l : List (List (List Int))) : loadTo n p l 0 = DevS.new n p := by
  have h : (List.range n).map (fun j => if j < 0 then loadZ (l.getD j []) else ZoneS.empty) = List.replicate n ZoneS.empty := by
    refine List.ext_getElem (by simp) fun j h1 h2 => by simp
  unfold loadTo DevS.new
  rw [h]
theorem loadTo_len (n p : Nat) (l : List (List (List Int))) (i : Nat) : (loadTo n p l i).zones.length = n := by simp [loadTo]
theorem loadTo_is {n p : Nat} {l : List (List (List Int))} {i j : Nat} (h : j < n) : (loadTo n p l i).is (j : Int) = true := DevS.is_iff.2 ⟨by omega, by rw [loadTo_len]; omega⟩
theorem loadTo_get {n p : Nat} {l : List (List (List Int))} {i : Nat} (h : i < n) : (loadTo n p l i).zone (i : Int) = ZoneS.empty := by
  rw [DevS.zone_out (loadTo_is h)]
  simp [loadTo]
theorem loadTo_put {n p : Nat} {l : List (List (List Int))} {i : Nat} : (loadTo n p l i).put (i : Int) (loadZ (l.getD i [])) = loadTo n p l (i + 1) := by
  have e : ((List.range n).map (fun j => if j < i then loadZ (l.getD j []) else ZoneS.empty)).set i (loadZ (l.getD i [])) = (List.range n).map (fun j => if j < i + 1 then loadZ (l.getD j []) else ZoneS.empty) := by
    refine List.ext_getElem (by simp) fun j h1 h2 => ?_
    by_cases hj : i = j
    · subst hj
      simp
    · rw [List.getElem_set_ne hj]
      simp only [List.getElem_map, List.getElem_range]
      by_cases h3 : j < i
      · rw [if_pos h3, if_pos (by omega)]
      · rw [if_neg h3, if_neg (by omega)]
  unfold loadTo DevS.put
  simp only [Int.toNat_natCast]
  rw [e]
theorem page_ok {b : List Int} (h : pageOk b = true) : b.length = 0 ∨ b.length = 33 := by simpa [pageOk] using h
theorem zone_ok {p : Nat} {z : List (List Int)} (h : zoneOk p z = true) : z.length ≤ p ∧ ∀ b ∈ z, b.length = 0 ∨ b.length = 33 := by
  simp only [zoneOk, Bool.and_eq_true, decide_eq_true_eq, List.all_eq_true] at h
  exact ⟨h.1, fun b hb => page_ok (h.2 b hb)⟩
theorem RowV.keep {G : Nat → Prop} {w w' : World} {base : Nat} {T : TypeId} {v : Value} {vs : List Value} (h : RowV w base T v vs) (hk : Kept G w w') (hn : ∀ g, v.ownBlock = some g → ¬ G g) : RowV w' base T v vs :=
  ⟨h.1, h.2.imp id fun ⟨g', c', cur, hv, hb, hc, r⟩ => ⟨g', c', cur, hv, hb, (hk.block g' (lt_of_block hc) (hn g' (by rw [hv]; rfl))).trans hc, r⟩⟩
/-- A zone while its pages are laid: behind the world u all is as it was but the zones' block; its pages' row is the call's own, and so is each page. -/
structure LZ (u wk : World) (zb i : Nat) (zs : List Value) (v : Value) (vs : List Value) (bs : List (List Int)) : Prop where
  kept : Kept (fun k => k = zb) u wk
  blk : Blk wk zb 84 (zs.set (i * 3) v)
  row : RowV wk u.heap.size 61 v vs
  len : vs.length = bs.length
  each : ∀ j (h : j < vs.length) (h2 : j < bs.length), RowV wk u.heap.size 5 vs[j] (cellsOf8 bs[j])
theorem LZ.rows {F : Nat → Prop} {u wk : World} {db zb i : Nat} {zs : List Value} {v : Value} {vs : List Value} {bs : List (List Int)} (h : LZ u wk zb i zs v vs bs) (hd : db < u.heap.size) (hz : zb < u.heap.size) : RowsF (fun k => grow F u wk k ∧ k ≠ db ∧ k ≠ zb) wk v bs := by
  obtain ⟨A, c, e, hc, hr, h0, hb⟩ := h.row.out
  refine ⟨A, c, vs, by rw [e, h.len], by rw [← h.len]; exact hc, hr, fun _ b o x ex => ?_, h0, h.len, fun j h1 h2 => ?_⟩
  · have := hb b o x ex
    exact ⟨.inr this, by omega, by omega⟩
  · obtain ⟨A, c, e, hc, hr, h0, hb⟩ := (h.each j h1 h2).out
    rw [cells8_len] at e hc
    exact ⟨A, c, e, hc, hr.rd, fun _ b o x ex => (by have := hb b o x ex; exact ⟨.inr this, by omega, by omega⟩), h0⟩
/-- One page more. -/
theorem LZ.step {u wk w4 : World} {zb i : Nat} {zs : List Value} {v v3 v4 : Value} {vs : List Value} {bs : List (List Int)} {x : List Int} (h : LZ u wk zb i zs v vs bs) (hz : zb < u.heap.size) (hk : Kept (fun k => v.ownBlock = some k) wk w4) (h3 : RowV w4 u.heap.size 5 v3 (cellsOf8 x)) (h4 : RowV w4 u.heap.size 61 v4 (vs ++ [v3])) :
    LZ u (w4.setCell ⟨zb, i * 3, none⟩ v4) zb i zs v4 (vs ++ [v3]) (bs ++ [x]) := by
  have hkz := kept_put w4 zb (i * 3) v4
  have hv : ∀ k, v.ownBlock = some k → u.heap.size ≤ k := fun k e => (h.row.own k e).1
  have hfar : ∀ {T : TypeId} {y : Value} {ys : List Value}, RowV w4 u.heap.size T y ys → RowV (w4.setCell ⟨zb, i * 3, none⟩ v4) u.heap.size T y ys := fun hy => hy.keep hkz (fun g e e2 => by have := (hy.own g e).1; omega)
  refine ⟨⟨?_, ?_, ?_, ?_, ?_⟩, ?_, hfar h4, by simp [h.len], fun j h1 h2 => ?_⟩
  · exact hkz.os.trans (hk.os.trans h.kept.os)
  · exact hkz.tape.trans (hk.tape.trans h.kept.tape)
  · exact hkz.output.trans (hk.output.trans h.kept.output)
  · exact Nat.le_trans h.kept.size (Nat.le_trans hk.size hkz.size)
  · intro k hlt hne
    have hs := h.kept.size
    have hs2 := hk.size
    rw [hkz.block k (by omega) hne, hk.block k (by omega) (fun e => by have := hv k e; omega)]
    exact h.kept.block k hlt hne
  · have := (hk.blk h.blk (fun e => by have := hv _ e; omega)).put (i * 3) v4
    rwa [List.set_set] at this
  · by_cases hj : j < vs.length
    · have hj2 : j < bs.length := by rw [← h.len]; exact hj
      rw [List.getElem_append_left hj, List.getElem_append_left hj2]
      have hr := h.each j hj hj2
      exact hfar (hr.keep hk (fun g e e2 => RowV.apart hr h.row (by decide) g e e2.symm))
    · have hl := h.len
      have e : j = vs.length := by simp at h1; omega
      subst e
      rw [List.getElem_append_right (by omega), List.getElem_append_right (by omega)]
      simp only [Nat.sub_self, List.getElem_cons_zero, h.len]
      exact hfar h3
/-- The zone's pages are all there; how many are sure is told. -/
theorem LZ.done {F : Nat → Prop} {u wk : World} {db zb cap i m : Nat} {zs : List Value} {v : Value} {vs : List Value} {bs : List (List Int)} {S : DevS} (h : LZ u wk zb i zs v vs bs) (H : RD F u db zb cap zs S) (hi : i < S.zones.length) (hf : (S.zone (i : Int)).fin = false) (hm : bs.length = m) (hwf : (S.put (i : Int) (loadZ bs)).WF) :
    (∃ zs', RD (grow F u (wk.setCell ⟨zb, i * 3 + 1, none⟩ (.int .i64 (m : Int)))) (wk.setCell ⟨zb, i * 3 + 1, none⟩ (.int .i64 (m : Int))) db zb cap zs' (S.put (i : Int) (loadZ bs)) ∧ ∀ k, i < k → zs'[k * 3]? = zs[k * 3]?) ∧ Kept F u (wk.setCell ⟨zb, i * 3 + 1, none⟩ (.int .i64 (m : Int))) := by
  subst hm
  have hdb := lt_of_block H.dev
  have hzb := lt_of_block H.blk
  have hzr := zrow_len H.room H.len hi
  have hkz := kept_put wk zb (i * 3 + 1) (.int .i64 (bs.length : Int))
  have hk := h.kept.and hkz
  have hn := H.nth i (DevS.is_iff.2 ⟨by omega, by omega⟩)
  rw [hf] at hn
  have hB := h.blk.put (i * 3 + 1) (.int .i64 (bs.length : Int))
  have hrow := (h.rows (F := F) hdb hzb).keep hkz (fun k hk e => hk.2.2 e)
  have hsz := hkz.size
  have hsz2 := h.kept.size
  refine ⟨⟨_, ⟨?_, hB, ?_, by simp only [DevS.put, List.length_set]; exact H.room, by simp only [List.length_set]; exact H.len, .inl H.fd, .inl H.fz, H.ne, fun k hk => ?_, hwf⟩, fun k hk => ?_⟩, hk.mono (fun k _ e => e ▸ H.fz)⟩
  · have := hk.blk H.dev H.ne
    simpa only [DevS.put, List.length_set] using this
  · intro j hj
    simp only [DevS.put, List.length_set, Int.toNat_natCast] at hj ⊢
    by_cases e : i = j
    · subst e
      rw [List.getElem_set_self]
      refine ⟨v, ?_, ?_, ?_, hrow.mono (fun k hk => ⟨hk.1.imp id (fun x => ⟨x.1, Nat.lt_of_lt_of_le x.2 hsz⟩), hk.2⟩)⟩
      · rw [List.getElem?_set_ne (by omega), List.getElem?_set_self (by omega)]
      · rw [List.getElem?_set_self (by rw [List.length_set]; omega)]
        rfl
      · rw [List.getElem?_set_ne (by omega), List.getElem?_set_ne (by omega)]
        exact hn.2
    · rw [List.getElem_set_ne e]
      obtain ⟨v', a, b, c, d⟩ := H.row j hj
      refine ⟨v', ?_, ?_, ?_, (d.keep hk (fun k hk e => hk.2.2 e)).mono (fun k hk => ⟨.inl hk.1, hk.2⟩)⟩
      · rw [List.getElem?_set_ne (by omega), List.getElem?_set_ne (by omega)]
        exact a
      · rw [List.getElem?_set_ne (by omega), List.getElem?_set_ne (by omega)]
        exact b
      · rw [List.getElem?_set_ne (by omega), List.getElem?_set_ne (by omega)]
        exact c
  · rcases hk with hk | hk
    · have := H.lt k hk
      omega
    · exact hk.2
  · rw [List.getElem?_set_ne (by omega), List.getElem?_set_ne (by omega)]

/-- Rows of rows of rows of bytes. -/
def Rows3 (w : World) (v : Value) (l : List (List (List Int))) : Prop :=
  ∃ A c vs, v = .slice A l.length c ∧ l.length ≤ c ∧ RdV w w.heap.size A vs ∧ (A = none → c = 0) ∧ vs.length = l.length ∧ ∀ i (h : i < vs.length) (h2 : i < l.length), RowsF (fun k => k < w.heap.size) w vs[i] l[i]
end Go.Proofs.YthmpimjmajoimaaGreatDoor
namespace Go.Proofs.YthmpimjmajoimaaGreatDoor
open Go.RowKit

theorem load_none {p : Nat} {l : List (List (List Int))} {i : Nat} (h : i < l.length) (hz : zoneOk p l[i] = false) : loadD (p : Int) l = none := by
  unfold loadD
  rw [if_neg]
  rintro ⟨_, h2⟩
  have := List.all_eq_true.1 h2 l[i] (List.getElem_mem h)
  rw [Int.toNat_natCast, hz] at this
  exact absurd this (by decide)
end Go.Proofs.YthmpimjmajoimaaGreatDoor
namespace Go.Proofs.YthmpimjmajoimaaGreatDoor
open Go.RowKit

theorem BytF.up {F : Nat → Prop} {w w' : World} {v : Value} {xs : List Int} (h : BytF F w v xs) (hb : Below w.heap.size w w') : BytF F w' v xs := h.keep (G := fun _ => False) (Kept.of_below hb) (fun _ _ => id)
/-- The value v is a slice of these cells, within F. -/
def RowF (F : Nat → Prop) (w : World) (v : Value) (vs : List Value) : Prop := ∃ A c, v = .slice A vs.length c ∧ vs.length ≤ c ∧ RdV w w.heap.size A vs ∧ InN vs.length F A ∧ (A = none → c = 0)
theorem RowF.keep {F G : Nat → Prop} {w w' : World} {v : Value} {vs : List Value} (h : RowF F w v vs) (hk : Kept G w w') (hn : ∀ k, F k → ¬ G k) : RowF F w' v vs := by
  obtain ⟨A, c, e, hc, hr, hf, h0⟩ := h
  exact ⟨A, c, e, hc, hr.keep hk (hf.mono hn), hf, h0⟩
theorem RowF.up {F : Nat → Prop} {w w' : World} {v : Value} {vs : List Value} (h : RowF F w v vs) (hb : Below w.heap.size w w') : RowF F w' v vs := h.keep (G := fun _ => False) (Kept.of_below hb) (fun _ _ => id)
theorem RowF.mono {F G : Nat → Prop} {w : World} {v : Value} {vs : List Value} (h : RowF F w v vs) (hfg : ∀ k, F k → G k) : RowF G w v vs := by
  obtain ⟨A, c, e, hc, hr, hf, h0⟩ := h
  exact ⟨A, c, e, hc, hr, hf.mono hfg, h0⟩
theorem RowF.nil (F : Nat → Prop) (w : World) : RowF F w (.slice none 0 0) [] := ⟨none, 0, rfl, by simp, RdV.nil, (InF.none _).n, fun _ => rfl⟩
theorem kCells_len (l : List Int) : (kCells l).length = l.length := by simp [kCells]
theorem tCells_len (l : List Bool) : (tCells l).length = l.length := by simp [tCells]

/-- A number that an int holds. -/
def Wd (n : Int) : Prop := -9223372036854775808 ≤ n ∧ n ≤ 9223372036854775807
/-- What a device's calls answer, as the landed package tells it. -/
def ZMade (D : (Nat → Prop) → World → Nat → DevS → Prop) (o : Option DevS) (w : World) (r : Ending) (w' : World) : Prop :=
  match o with
  | none => r = .returned (.tuple #[.pointer none, errV 1]) ∧ Below w.heap.size w w'
  | some S => ∃ db, r = .returned (.tuple #[.pointer (some ⟨db, 0, none⟩), .nilIface]) ∧ D (fun k => w.heap.size ≤ k ∧ k < w'.heap.size) w' db S ∧ Below w.heap.size w w'
def ZDone (D : (Nat → Prop) → World → Nat → DevS → Prop) (F : Nat → Prop) (db : Nat) (S' : DevS) (v : Value) (w : World) (r : Ending) (w' : World) : Prop := r = .returned v ∧ D (grow F w w') w' db S' ∧ Kept F w w'
def ZRead (xs : List Int) (e : Int) (w : World) (r : Ending) (w' : World) : Prop := ∃ v, r = .returned (.tuple #[v, errV e]) ∧ BytN w w' v xs ∧ Below w.heap.size w w'
/-- An act's six cells. -/
def ActF (F : Nat → Prop) (w : World) (vb vk vt : Value) (x : ActS) : Prop := BytF F w vb x.B ∧ RowF F w vk (kCells x.keep) ∧ RowF F w vt (tCells x.tear)
theorem ActF.keep {F G : Nat → Prop} {w w' : World} {vb vk vt : Value} {x : ActS} (h : ActF F w vb vk vt x) (hk : Kept G w w') (hn : ∀ k, F k → ¬ G k) : ActF F w' vb vk vt x := ⟨h.1.keep hk hn, h.2.1.keep hk hn, h.2.2.keep hk hn⟩
theorem ActF.up {F : Nat → Prop} {w w' : World} {vb vk vt : Value} {x : ActS} (h : ActF F w vb vk vt x) (hb : Below w.heap.size w w') : ActF F w' vb vk vt x := ⟨h.1.up hb, h.2.1.up hb, h.2.2.up hb⟩
theorem ActF.mono {F G : Nat → Prop} {w : World} {vb vk vt : Value} {x : ActS} (h : ActF F w vb vk vt x) (hfg : ∀ k, F k → G k) : ActF G w vb vk vt x := ⟨h.1.mono hfg, h.2.1.mono hfg, h.2.2.mono hfg⟩
theorem ActF.form {F : Nat → Prop} {w : World} {vb vk vt : Value} {x : ActS} (h : ActF F w vb vk vt x) : ∃ A1 c1 A2 c2 A3 c3, vb = .slice A1 x.B.length c1 ∧ vk = .slice A2 x.keep.length c2 ∧ vt = .slice A3 x.tear.length c3 := by
  obtain ⟨⟨A1, c1, e1, _⟩, ⟨A2, c2, e2, _⟩, ⟨A3, c3, e3, _⟩⟩ := h
  rw [kCells_len] at e2
  rw [tCells_len] at e3
  exact ⟨A1, c1, A2, c2, A3, c3, e1, e2, e3⟩
/-- The slice of A, l.length, c reads as these acts, within F. -/
def ActsF (F : Nat → Prop) (w : World) (A : Option Addr) (l : List ActS) : Prop :=
  0 < l.length → ∃ b o : Nat, A = some ⟨b, o, none⟩ ∧ b < w.heap.size ∧ F b ∧ ∀ i (h : i < l.length), ∃ vb vk vt, ActF F w vb vk vt l[i] ∧ w.cell? ⟨b, o + i * 6, none⟩ = some (.int .i64 l[i].Do) ∧ w.cell? ⟨b, o + i * 6 + 1, none⟩ = some (.int .i64 l[i].zone) ∧
    w.cell? ⟨b, o + i * 6 + 2, none⟩ = some (.int .i64 l[i].page) ∧ w.cell? ⟨b, o + i * 6 + 3, none⟩ = some vb ∧ w.cell? ⟨b, o + i * 6 + 4, none⟩ = some vk ∧ w.cell? ⟨b, o + i * 6 + 5, none⟩ = some vt
theorem ActsF.keep {F G : Nat → Prop} {w w' : World} {A : Option Addr} {l : List ActS} (h : ActsF F w A l) (hk : Kept G w w') (hn : ∀ k, F k → ¬ G k) : ActsF F w' A l := by
  intro hp
  obtain ⟨b, o, e, hlt, hb, hx⟩ := h hp
  refine ⟨b, o, e, Nat.lt_of_lt_of_le hlt hk.size, hb, fun i hi => ?_⟩
  obtain ⟨vb, vk, vt, ha, h0, h1, h2, h3, h4, h5⟩ := hx i hi
  exact ⟨vb, vk, vt, ha.keep hk hn, hk.cell h0 (hn _ hb), hk.cell h1 (hn _ hb), hk.cell h2 (hn _ hb), hk.cell h3 (hn _ hb), hk.cell h4 (hn _ hb), hk.cell h5 (hn _ hb)⟩
theorem ActsF.up {F : Nat → Prop} {w w' : World} {A : Option Addr} {l : List ActS} (h : ActsF F w A l) (hb : Below w.heap.size w w') : ActsF F w' A l := h.keep (G := fun _ => False) (Kept.of_below hb) (fun _ _ => id)
end Go.Proofs.YthmpimjmajoimaaGreatDoor
