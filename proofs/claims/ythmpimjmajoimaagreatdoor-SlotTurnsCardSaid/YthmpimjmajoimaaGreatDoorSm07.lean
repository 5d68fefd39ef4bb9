/-
  The document's device: New.
  The document's device: a crash: zones anew, one by one.
  The document's device: Crash.
-/
import Derived.Test.YthmpimjmajoimaaGreatDoorSm06
import Derived.Deep.DeepCutAuto
import Derived.Deep.CutBlock
namespace Go.Proofs.YthmpimjmajoimaaGreatDoor
open Go.RowKit

/-- The cells of n empty zones. -/
def zCells : Nat → List Value
  | 0 => []
  | n + 1 => zCells n ++ [.slice none 0 0, .int .i64 0, .bool false]
theorem zCells_len (n : Nat) : (zCells n).length = n * 3 := by
  induction n with
  | zero => rfl
  | succ n ih => simp only [zCells, List.length_append, ih, List.length_cons, List.length_nil]; omega
theorem zCells_get (n i : Nat) (h : i < n) : (zCells n)[i * 3]? = some (.slice none 0 0) ∧ (zCells n)[i * 3 + 1]? = some (.int .i64 0) ∧ (zCells n)[i * 3 + 2]? = some (.bool false) := by
  induction n with
  | zero => omega
  | succ n ih =>
    have hl := zCells_len n
    by_cases hi : i < n
    · obtain ⟨a, b, c⟩ := ih hi
      simp only [zCells]
      rw [List.getElem?_append_left (by omega), List.getElem?_append_left (by omega), List.getElem?_append_left (by omega)]
      exact ⟨a, b, c⟩
    · obtain rfl : i = n := by omega
      simp only [zCells]
      rw [List.getElem?_append_right (by omega), List.getElem?_append_right (by omega), List.getElem?_append_right (by omega), hl]
      simp
theorem infoZone : (Tryz.prog.info? 84).map (fun i => (i.zero, i.size, i.bytes)) = some (some (.agg #[.slice none 0 0, .int .i64 0, .bool false]), 3, 40) := by kernel_rfl
/-- Empty zones of the call's own. -/
def ZOwn (w : World) (base : Nat) (v : Value) (n : Nat) : Prop := w.ownsRow base 84 3 v n (zCells n)
theorem ZOwn.up {w w' : World} {base : Nat} {v : Value} {n : Nat} (h : ZOwn w base v n) (hb : Below w.heap.size w w') : ZOwn w' base v n :=
  ⟨h.1, h.2.imp id fun ⟨g', c', cur, hv, hg, hc, r⟩ => ⟨g', c', cur, hv, hg, (hb.block g' (lt_of_block hc)).trans hc, r⟩⟩
theorem ZOwn.far {w w' : World} {base : Nat} {v : Value} {n k : Nat} (h : ZOwn w base v n) (hk : Kept (fun j => j = k) w w') (hb : k < base) : ZOwn w' base v n :=
  ⟨h.1, h.2.imp id fun ⟨g', c', cur, hv, hg, hc, r⟩ => ⟨g', c', cur, hv, hg, (hk.block g' (lt_of_block hc) (fun e => by subst e; omega)).trans hc, r⟩⟩
theorem ZOwn.own {w : World} {base : Nat} {v : Value} {n : Nat} (h : ZOwn w base v n) : ∀ j, v.ownBlock = some j → base ≤ j ∧ j < w.heap.size := by
  rcases h.2 with ⟨rfl, _⟩ | ⟨g, cap, cur, rfl, hb, hg, _⟩
  · intro j hj
    cases hj
  · intro j hj
    simp [Value.ownBlock] at hj
    subst hj
    exact ⟨hb, lt_of_block hg⟩
theorem ZOwn.out {w : World} {base : Nat} {v : Value} {n : Nat} (h : ZOwn w base v n) (hn : 0 < n) : ∃ g cap cur, v = .slice (some ⟨g, 0, none⟩) n cap ∧ base ≤ g ∧ Blk w g 84 cur ∧ n ≤ cap ∧ cur.length = 3 * cap ∧
    ∀ i, i < n → cur[i * 3]? = some (.slice none 0 0) ∧ cur[i * 3 + 1]? = some (.int .i64 0) ∧ cur[i * 3 + 2]? = some (.bool false) := by
  rcases h.2 with ⟨rfl, h0⟩ | ⟨g, cap, cur, rfl, hb, hg, hc, _, hs, ht⟩
  · omega
  · refine ⟨g, cap, cur.toList, rfl, hb, hg, hc, by rw [Array.length_toList, hs]; omega, fun i hi => ?_⟩
    obtain ⟨a, b, c⟩ := zCells_get n i hi
    have key : ∀ k x, (zCells n)[k]? = some x → cur.toList[k]? = some x := fun k x e => by
      rw [← ht, List.getElem?_take] at e
      split at e
      · exact e
      · cases e
    exact ⟨key _ _ a, key _ _ b, key _ _ c⟩

/-- append of an empty zone. -/
theorem appZ (w : World) {ops : Array Oper} {rest : List Oper} {o : Oper} {a : Act} {Q : Exit → Act → World → Prop} (hgd : o.guard = none) (s x : Operand) (ho : o.op = .call { callee := .builtin .append, args := #[s, x], argTypes := #[80, 80] })
    (base n c e : Nat) (v : Value) (hs : a.eval s = v) (hown : ZOwn w base v n) (hx : a.eval x = .slice (some ⟨e, 0, none⟩) 1 c) (he : Blk w e 84 [.slice none 0 0, .int .i64 0, .bool false]) (hn : n ≤ 1000) (hbase : base ≤ w.heap.size)
    (h : ∀ v' w', ZOwn w' base v' (n + 1) → w.grownBy w' v.ownBlock → wpList Tryz.prog ops Q rest (a.put o.dst v') w') : wpList Tryz.prog ops Q (o :: rest) a w := by
  obtain ⟨i0, hi, hz0, hz1, hz2⟩ := info_parts infoZone
  refine wpList_append_own w hgd s x 80 ho base 84 i0 (.agg #[.slice none 0 0, .int .i64 0, .bool false]) 3 40 Tryz.underlying80 hi hz0 hz1 hz2 rfl (by decide) v n (zCells n) hs hown ⟨e, 0, none⟩ 1 c [.slice none 0 0, .int .i64 0, .bool false] hx rfl ?_ ?_ (by unfold maxLen; omega) (by omega) hbase ?_
  · intro j u hj
    obtain ⟨hjl, rfl⟩ := List.getElem?_eq_some_iff.1 hj
    have := he.cell j hjl
    rcases j with _ | j
    · simpa [Addr.add] using this
    · simpa [Addr.add] using this
  · intro u hu
    simp at hu
    rcases hu with rfl | rfl | rfl <;> rfl
  · intro v' w' h2 h3 _
    exact h v' w' h2 h3

def newD (n p : Int) : Option DevS := if 1 ≤ n ∧ n ≤ 24 ∧ 1 ≤ p ∧ p ≤ 16 then some (DevS.new n.toNat p.toNat) else none
/-- What New and Load answer. -/
def MadeIs (o : Option DevS) (w : World) (r : Ending) (w' : World) : Prop :=
  match o with
  | none => r = .returned (.tuple #[.pointer none, .int .i64 1]) ∧ Below w.heap.size w w'
  | some S => ∃ db, r = .returned (.tuple #[.pointer (some ⟨db, 0, none⟩), .int .i64 0]) ∧ RDev (fun k => w.heap.size ≤ k ∧ k < w'.heap.size) w' db S ∧ Below w.heap.size w w'
/-- A new device, whose zones' pages are nil. -/
def NewIs (n p : Nat) (w : World) (r : Ending) (w' : World) : Prop := ∃ db zb cap zs, r = .returned (.tuple #[.pointer (some ⟨db, 0, none⟩), .int .i64 0]) ∧ RD (fun k => w.heap.size ≤ k ∧ k < w'.heap.size) w' db zb cap zs (DevS.new n p) ∧ (∀ i, i < n → zs[i * 3]? = some (.slice none 0 0)) ∧ Below w.heap.size w w'
theorem new_end {w wr : World} {n p db : Nat} {V : Value} (hdb : w.heap.size ≤ db) (hB : Blk wr db 82 [V, .int .i64 (p : Int), .int .i64 (-1), .int .i64 0, .bool false]) (hZ : ZOwn wr (db + 1) V n) (hn : 1 ≤ n) (hn2 : n ≤ 24) (hp : 1 ≤ p) (hp2 : p ≤ 16) : ∃ zb cap zs, RD (fun k => w.heap.size ≤ k ∧ k < wr.heap.size) wr db zb cap zs (DevS.new n p) ∧ ∀ i, i < n → zs[i * 3]? = some (.slice none 0 0) := by
  obtain ⟨g, cap, cur, rfl, hg, hb, hc, hl, hx⟩ := hZ.out (by omega)
  refine ⟨g, cap, cur, ⟨?_, hb, fun i hi => ?_, by simpa [DevS.new] using hc, hl, ⟨hdb, lt_of_block hB⟩, ⟨by omega, lt_of_block hb⟩, by omega, fun k hk => hk.2, DevS.new_wf hn hn2 hp hp2⟩, fun i hi => (hx i hi).1⟩
  · simpa [DevS.new] using hB
  · have hi' : i < n := by simpa [DevS.new] using hi
    obtain ⟨a, b, c⟩ := hx i hi'
    refine ⟨_, a, ?_, ?_, ?_⟩
    · simpa [DevS.new, ZoneS.empty] using b
    · simpa [DevS.new, ZoneS.empty] using c
    · simp only [DevS.new, List.getElem_replicate, ZoneS.empty]
      exact RowsF.nil _ _
set_option maxHeartbeats 1000000 in
theorem rnew_yes {w : World} (n p : Nat) (hn : 1 ≤ n) (hn2 : n ≤ 24) (hp : 1 ≤ p) (hp2 : p ≤ 16) : Calls Tryz.prog 10 #[.int .i64 (n : Int), .int .i64 (p : Int)] w (NewIs n p w) := by
  have HN := Lib.hid (And.intro hn (And.intro hn2 (And.intro hp hp2)))
  have d1 : decide ((n : Int) < 1) = false := by simp; omega
  have d2 : decide ((24 : Int) < (n : Int)) = false := by simp; omega
  have d3 : decide ((p : Int) < 1) = false := by simp; omega
  have d4 : decide ((16 : Int) < (p : Int)) = false := by simp; omega
  clear hn hp
  go_enter Tryz.func10, Tryz.ntmps10
  go_wp2_with fail
  go_loopg [7] n (fun q x wr => ∃ (i : Nat) (V : Value), i ≤ n ∧ q = n - i ∧ x = .int .i64 i ∧ Blk wr w.heap.size 82 [V, .int .i64 (p : Int), .int .i64 (-1), .int .i64 0, .bool false] ∧ ZOwn wr (w.heap.size + 1) V i ∧ Below w.heap.size w wr)
  case atStart =>
    refine ⟨0, .slice none 0 0, by omega, by omega, rfl, ?_, ⟨rfl, .inl ⟨rfl, rfl⟩⟩, Below.alloc (Below.refl _ _) (Nat.le_refl _) _⟩
    exact heap_alloc_new w _
  case round =>
    obtain ⟨i, V, hi, hq, rfl, hB, hZ, hbl⟩ := hrel
    have HQ := Lib.hid hq
    have HB := Lib.hid hB
    have HZ := Lib.hid hZ
    have HL := Lib.hid hbl
    have c0 : wr.cell? ⟨w.heap.size, 0, none⟩ = some V := hB.cell 0 (by simp)
    have f0 : wr.frozen? ⟨w.heap.size, 0, none⟩ = false := hB.free 0
    have hlt := lt_of_block hB
    clear hq hB hZ hbl
    by_cases hin : i < n
    · have HBE : Hid (Below w.heap.size w (wr.alloc (.cells #[.slice none 0 0, .int .i64 0, .bool false] 84))) := Lib.hid (HL.out.alloc HL.out.size _)
      have HE : Hid (Blk (wr.alloc (.cells #[.slice none 0 0, .int .i64 0, .bool false] 84)) wr.heap.size 84 [.slice none 0 0, .int .i64 0, .bool false]) := Lib.hid (heap_alloc_new wr _)
      have HZE : Hid (ZOwn (wr.alloc (.cells #[.slice none 0 0, .int .i64 0, .bool false] 84)) (w.heap.size + 1) V i) := Lib.hid (HZ.out.up (Below.alloc (Below.refl _ _) (Nat.le_refl _) _))
      have HBW : Hid (Blk (wr.alloc (.cells #[.slice none 0 0, .int .i64 0, .bool false] 84)) w.heap.size 82 [V, .int .i64 (p : Int), .int .i64 (-1), .int .i64 0, .bool false]) := Lib.hid (HB.out.up (Below.alloc (Below.refl wr.heap.size wr) (Nat.le_refl _) _) hlt)
      go_wp2_with (first
        | (at_builtin; refine appZ _ rfl (.tmp 34) (.tmp 36) rfl (w.heap.size + 1) i 1 wr.heap.size V rfl HZE.out rfl HE.out ?h1a ?h1b ?_; (case h1a => omega); (case h1b => rw [World.size_alloc]; omega); intro v2 w2 hown hgr; obtain ⟨g2, cap2, rfl⟩ : ∃ g cap, v2 = .slice (some ⟨g, 0, none⟩) (i + 1) cap := (by obtain ⟨g, cap, _, e, _⟩ := hown.out (by omega); exact ⟨g, cap, e⟩); have HZ2 := Lib.hid hown; have HB2 := Lib.hid (HBW.out.kept hgr (fun e => by have := HZE.out.own _ e.symm; omega)); have HL2 := Lib.hid (HBE.out.grown hgr HBE.out.size (fun k e => by have := HZE.out.own _ e; omega)); have c2 : w2.cell? ⟨w.heap.size, 0, none⟩ = some V := HB2.out.cell 0 (by simp); have f2 : w2.frozen? ⟨w.heap.size, 0, none⟩ = false := HB2.out.free 0; clear hown hgr)
        | fail)
      go_roundg (n - (i + 1))
      case rel => exact ⟨i + 1, .slice (some ⟨g2, 0, none⟩) (i + 1) cap2, by omega, rfl, by go_num, HB2.out.put 0 _, HZ2.out.far (kept_put _ _ _ _) (by omega), HL2.out.setCell (Nat.le_refl _) _⟩
      case measure => have := HQ.out; omega
    · obtain rfl : i = n := by omega
      go_wp2_with fail
      go_ret2
      obtain ⟨zb, cap, zs, h1, h2⟩ := new_end (Nat.le_refl _) HB.out HZ.out HN.out.1 HN.out.2.1 HN.out.2.2.1 HN.out.2.2.2
      exact ⟨w.heap.size, zb, cap, zs, rfl, h1, h2, HL.out⟩
theorem rnew_no {w : World} (n p : Int) (h : ¬ (1 ≤ n ∧ n ≤ 24 ∧ 1 ≤ p ∧ p ≤ 16)) : Calls Tryz.prog 10 #[.int .i64 n, .int .i64 p] w (MadeIs none w) := by
  by_cases h1 : n < 1
  · have d1 : decide (n < 1) = true := by simpa using h1
    clear h
    go_enter Tryz.func10, Tryz.ntmps10
    go_wp2_with fail
    go_ret2
    exact ⟨rfl, Below.refl _ _⟩
  · have d1 : decide (n < 1) = false := by simpa using h1
    by_cases h2 : 24 < n
    · have d2 : decide (24 < n) = true := by simpa using h2
      clear h
      go_enter Tryz.func10, Tryz.ntmps10
      go_wp2_with fail
      go_ret2
      exact ⟨rfl, Below.refl _ _⟩
    · have d2 : decide (24 < n) = false := by simpa using h2
      by_cases h3 : p < 1
      · have d3 : decide (p < 1) = true := by simpa using h3
        clear h
        go_enter Tryz.func10, Tryz.ntmps10
        go_wp2_with fail
        go_ret2
        exact ⟨rfl, Below.refl _ _⟩
      · have d3 : decide (p < 1) = false := by simpa using h3
        have h4 : 16 < p := by omega
        have d4 : decide (16 < p) = true := by simpa using h4
        clear h
        go_enter Tryz.func10, Tryz.ntmps10
        go_wp2_with fail
        go_ret2
        exact ⟨rfl, Below.refl _ _⟩
theorem rnew_at {w : World} (n p : Int) : Calls Tryz.prog 10 #[.int .i64 n, .int .i64 p] w (MadeIs (newD n p) w) := by
  by_cases h : 1 ≤ n ∧ n ≤ 24 ∧ 1 ≤ p ∧ p ≤ 16
  · obtain ⟨a, rfl⟩ := Int.eq_ofNat_of_zero_le (show 0 ≤ n by omega)
    obtain ⟨b, rfl⟩ := Int.eq_ofNat_of_zero_le (show 0 ≤ p by omega)
    have e : newD (a : Int) (b : Int) = some (DevS.new a b) := by
      unfold newD
      rw [if_pos h]
      rfl
    rw [e]
    refine (rnew_yes a b (by omega) (by omega) (by omega) (by omega)).mono ?_
    rintro r w' ⟨db, zb, cap, zs, h1, h2, _, h4⟩
    exact ⟨db, h1, ⟨zb, cap, zs, h2⟩, h4⟩
  · have e : newD n p = none := by
      unfold newD
      rw [if_neg h]
    rw [e]
    exact rnew_no n p h
end Go.Proofs.YthmpimjmajoimaaGreatDoor
namespace Go.Proofs.YthmpimjmajoimaaGreatDoor
open Go.RowKit

/-- Zone number j behind a crash. -/
def crashAt (S : DevS) (keep : List Int) (tear : List Bool) (j : Nat) : ZoneS := DevS.crashZ (S.zones.getD j ZoneS.empty) (keep.getD j 0) (tear.getD j false)
/-- The first i zones have crashed. -/
def crashTo (S : DevS) (keep : List Int) (tear : List Bool) (i : Nat) : DevS := { S with zones := (List.range S.zones.length).map (fun j => if j < i then crashAt S keep tear j else S.zones.getD j ZoneS.empty) }
theorem crashTo_zero (S : DevS) (keep : List Int) (tear : List Bool) : crashTo S keep tear 0 = S := by
  have h : (List.range S.zones.length).map (fun j => if j < 0 then crashAt S keep tear j else S.zones.getD j ZoneS.empty) = S.zones := by
    refine List.ext_getElem (by simp) fun j h1 h2 => ?_
    simp [List.getD_eq_getElem?_getD, List.getElem?_eq_getElem h2]
  unfold crashTo
  rw [h]
theorem crashTo_all (S : DevS) (keep : List Int) (tear : List Bool) : { crashTo S keep tear S.zones.length with left := -1, gone := false } = S.crash keep tear := by
  have h : (List.range S.zones.length).map (fun j => if j < S.zones.length then crashAt S keep tear j else S.zones.getD j ZoneS.empty) = (List.range S.zones.length).map (fun j => crashAt S keep tear j) :=
    List.map_congr_left fun j hj => by rw [if_pos (List.mem_range.1 hj)]
  unfold crashTo DevS.crash
  simp only [h]
  rfl
theorem crashTo_len (S : DevS) (keep : List Int) (tear : List Bool) (i : Nat) : (crashTo S keep tear i).zones.length = S.zones.length := by simp [crashTo]
theorem crashTo_is {S : DevS} {keep : List Int} {tear : List Bool} {i : Nat} (h : i < S.zones.length) : (crashTo S keep tear i).is (i : Int) = true := DevS.is_iff.2 ⟨by omega, by rw [crashTo_len]; omega⟩
theorem crashTo_get {S : DevS} {keep : List Int} {tear : List Bool} {i : Nat} (h : i < S.zones.length) : (crashTo S keep tear i).zone (i : Int) = S.zones[i] := by
  rw [DevS.zone_out (crashTo_is h)]
  simp [crashTo, List.getD_eq_getElem?_getD, List.getElem?_eq_getElem h]
theorem crashAt_get {S : DevS} {keep : List Int} {tear : List Bool} {i : Nat} (h : i < S.zones.length) : crashAt S keep tear i = DevS.crashZ S.zones[i] (keep.getD i 0) (tear.getD i false) := by
  simp [crashAt, List.getD_eq_getElem?_getD, List.getElem?_eq_getElem h]
theorem crashTo_put {S : DevS} {keep : List Int} {tear : List Bool} {i : Nat} (_h : i < S.zones.length) : (crashTo S keep tear i).put (i : Int) (crashAt S keep tear i) = crashTo S keep tear (i + 1) := by
  have e : ((List.range S.zones.length).map (fun j => if j < i then crashAt S keep tear j else S.zones.getD j ZoneS.empty)).set i (crashAt S keep tear i) = (List.range S.zones.length).map (fun j => if j < i + 1 then crashAt S keep tear j else S.zones.getD j ZoneS.empty) := by
    refine List.ext_getElem (by simp) fun j h1 h2 => ?_
    by_cases hj : i = j
    · subst hj
      simp
    · rw [List.getElem_set_ne hj]
      simp only [List.getElem_map, List.getElem_range]
      by_cases h3 : j < i
      · rw [if_pos h3, if_pos (by omega)]
      · rw [if_neg h3, if_neg (by omega)]
  unfold crashTo DevS.put
  simp only [Int.toNat_natCast]
  rw [e]
theorem crashAt_ok {S : DevS} (h : S.WF) {keep : List Int} {tear : List Bool} {i : Nat} (hi : i < S.zones.length) : (crashAt S keep tear i).pages.length ≤ S.P ∧ (crashAt S keep tear i).sure ≤ (crashAt S keep tear i).pages.length ∧ ∀ b ∈ (crashAt S keep tear i).pages, (b.length = 0 ∨ b.length = 33) ∧ Byt b := by
  have hw := DevS.crash_wf h keep tear
  exact hw.pages (crashAt S keep tear i) (by
    unfold DevS.crash
    simp only [List.mem_map, List.mem_range]
    exact ⟨i, hi, rfl⟩)
theorem crashTo_wf {S : DevS} (h : S.WF) (keep : List Int) (tear : List Bool) (i : Nat) : (crashTo S keep tear i).WF := by
  refine ⟨by rw [crashTo_len]; exact h.z0, by rw [crashTo_len]; exact h.z1, h.p0, h.p1, h.l0, h.l1, fun z hz => ?_⟩
  simp only [crashTo, List.mem_map, List.mem_range] at hz
  obtain ⟨j, hj, rfl⟩ := hz
  split
  · exact crashAt_ok h hj
  · have hm : S.zones.getD j ZoneS.empty ∈ S.zones := by
      rw [List.getD_eq_getElem?_getD, List.getElem?_eq_getElem hj]
      exact List.getElem_mem _
    exact h.pages _ hm

/-- A zone's three cells are stored anew, its pages in memory of the call's own or in the footprint. -/
theorem rd_anew {F : Nat → Prop} {w1 w4 : World} {db zb cap i : Nat} {zs : List Value} {S1 : DevS} {z : ZoneS} {v : Value} (H1 : RD F w1 db zb cap zs S1) (hlt : i < S1.zones.length) (HB : Below w1.heap.size w1 w4) (hrow : RowsF (fun k => grow F w1 w4 k ∧ k ≠ db ∧ k ≠ zb) w4 v z.pages) (hwf : (S1.put (i : Int) z).WF) :
    (∃ zs', RD (grow F w1 (((w4.setCell ⟨zb, i * 3, none⟩ v).setCell ⟨zb, i * 3 + 1, none⟩ (.int .i64 (z.sure : Int))).setCell ⟨zb, i * 3 + 2, none⟩ (.bool z.fin))) (((w4.setCell ⟨zb, i * 3, none⟩ v).setCell ⟨zb, i * 3 + 1, none⟩ (.int .i64 (z.sure : Int))).setCell ⟨zb, i * 3 + 2, none⟩ (.bool z.fin)) db zb cap zs' (S1.put (i : Int) z)) ∧
    Kept F w1 (((w4.setCell ⟨zb, i * 3, none⟩ v).setCell ⟨zb, i * 3 + 1, none⟩ (.int .i64 (z.sure : Int))).setCell ⟨zb, i * 3 + 2, none⟩ (.bool z.fin)) := by
  have H4 : RD (grow F w1 w4) w4 db zb cap zs S1 := (H1.up HB).grow
  have hzr := zrow_len H1.room H1.len hlt
  have HZ := set_three (zs := zs) (k := i * 3) v (.int .i64 (z.sure : Int)) (.bool z.fin) hzr
  have hkz : Kept (fun k => k = zb) w4 (((w4.setCell ⟨zb, i * 3, none⟩ v).setCell ⟨zb, i * 3 + 1, none⟩ (.int .i64 (z.sure : Int))).setCell ⟨zb, i * 3 + 2, none⟩ (.bool z.fin)) := (((Kept.refl (fun k => k = zb) w4).put (.inl rfl) _ _).put (.inl rfl) _ _).put (.inl rfl) _ _
  have H5 := H4.setZone (i := i) (z := z) (v := v) hlt (((H4.blk.put _ _).put _ _).put _ _) hkz HZ.1 HZ.2.1 HZ.2.2.1 HZ.2.2.2.1 HZ.2.2.2.2 (hrow.keep hkz (fun k hk e => hk.2.2 e)) hwf
  refine ⟨⟨_, H5.mono (fun k hk => ?_) (fun k hk => ?_)⟩, (Kept.of_below HB).and (hkz.mono (fun k _ e => e ▸ H1.fz))⟩
  · rcases hk with hk | hk
    · exact .inl hk
    · exact .inr ⟨hk.1, Nat.lt_of_lt_of_le hk.2 hkz.size⟩
  · rcases hk with hk | hk
    · exact Nat.lt_of_lt_of_le (H1.lt k hk) (Nat.le_trans HB.size hkz.size)
    · exact hk.2
/-- Round upon round. -/
theorem rd_rounds {F : Nat → Prop} {w wr w5 : World} {db zb cap : Nat} {zs : List Value} {S : DevS} (h : RD (grow (grow F w wr) wr w5) w5 db zb cap zs S) (h1 : w.heap.size ≤ wr.heap.size) (h2 : wr.heap.size ≤ w5.heap.size) : RD (grow F w w5) w5 db zb cap zs S := by
  refine h.mono (fun k hk => ?_) (fun k hk => ?_)
  · rcases hk with (hk | hk) | hk
    · exact .inl hk
    · exact .inr ⟨hk.1, Nat.lt_of_lt_of_le hk.2 h2⟩
    · exact .inr ⟨Nat.le_trans h1 hk.1, hk.2⟩
  · rcases hk with hk | hk
    · exact h.lt k (.inl (.inl hk))
    · exact hk.2
/-- What stays of a zone's pages, in a row of the call's own. -/
theorem rows_left {F : Nat → Prop} {w1 w4 : World} {db zb : Nat} {vs : List Value} {Z : ZoneS} {K : Int} {t : Bool} {v : Value} (hvl : vs.length = Z.pages.length) (hsu : Z.sure ≤ Z.pages.length) (HX : ∀ j (h : j < vs.length) (h2 : j < Z.pages.length), BytF (fun k => F k ∧ k ≠ db ∧ k ≠ zb) w1 vs[j] Z.pages[j]) (HB : Below w1.heap.size w1 w4) (hdb : db < w1.heap.size) (hzb : zb < w1.heap.size)
    (HO : RowV w4 w1.heap.size 61 v (vs.take (DevS.stays Z K) ++ (if (t && decide (DevS.stays Z K < Z.pages.length)) = true then [.slice none 0 0] else []))) : RowsF (fun k => grow F w1 w4 k ∧ k ≠ db ∧ k ≠ zb) w4 v (DevS.crashZ Z K t).pages := by
  obtain ⟨A, c, e, hc, hr, h0, hb⟩ := HO.out
  have hst := DevS.stays_le hsu K
  have hlen : (vs.take (DevS.stays Z K) ++ (if (t && decide (DevS.stays Z K < Z.pages.length)) = true then [Value.slice none 0 0] else [])).length = (DevS.crashZ Z K t).pages.length := by
    simp only [DevS.crashZ, DevS.left1, List.length_append, List.length_take, hvl]
    split <;> simp
  refine ⟨A, c, _, by rw [e, hlen], by rw [← hlen]; exact hc, hr, fun _ b o x ex => ?_, h0, hlen, fun j h h2 => ?_⟩
  · have := hb b o x ex
    exact ⟨.inr this, by omega, by omega⟩
  · simp only [DevS.crashZ, DevS.left1] at h2 ⊢
    by_cases hj : j < DevS.stays Z K
    · rw [List.getElem_append_left (by rw [List.length_take]; omega), List.getElem_append_left (by rw [List.length_take]; omega), List.getElem_take, List.getElem_take]
      exact ((HX j (by omega) (by omega)).keep (Kept.of_below (F := fun _ => False) HB) (fun _ _ => id)).mono (fun k hk => ⟨.inl hk.1, hk.2⟩)
    · rw [List.getElem_append_right (by rw [List.length_take]; omega), List.getElem_append_right (by rw [List.length_take]; omega)]
      by_cases ht : (t && decide (DevS.stays Z K < Z.pages.length)) = true
      · simp only [ht, if_true, List.getElem_singleton]
        exact ⟨none, 0, rfl, by simp, Rd.nil, (InF.none _).n, fun _ => rfl⟩
      · simp only [ht, List.append_nil, List.length_take, Bool.false_eq_true, if_false] at h2
        omega
theorem RowV.le {w : World} {base base' : Nat} {T : TypeId} {v : Value} {vs : List Value} (h : RowV w base T v vs) (hb : base' ≤ base) : RowV w base' T v vs :=
  ⟨h.1, h.2.imp id fun ⟨g', c', cur, hv, hg, r⟩ => ⟨g', c', cur, hv, Nat.le_trans hb hg, r⟩⟩
/-- One zone more has crashed. -/
theorem crash_round {F : Nat → Prop} {w wr u : World} {db zb cap i N : Nat} {zs vs : List Value} {S : DevS} {keep : List Int} {tear : List Bool} {Z : ZoneS} {kp : Int} {tt fi : Bool} {v : Value} (H1 : RD (grow F w wr) wr db zb cap zs (crashTo S keep tear i)) (hwf : S.WF) (hlt : i < S.zones.length) (hCA : crashAt S keep tear i = DevS.crashZ Z kp tt) (hvl : vs.length = Z.pages.length) (hsu : Z.sure ≤ Z.pages.length) (hfi : Z.fin = fi)
    (HX : ∀ j (h : j < vs.length) (h2 : j < Z.pages.length), BytF (fun k => grow F w wr k ∧ k ≠ db ∧ k ≠ zb) wr vs[j] Z.pages[j]) (HB : Below wr.heap.size wr u) (HO : RowV u wr.heap.size 61 v (vs.take (DevS.stays Z kp) ++ (if (tt && decide (DevS.stays Z kp < Z.pages.length)) = true then [.slice none 0 0] else []))) (hN : (vs.take (DevS.stays Z kp) ++ (if (tt && decide (DevS.stays Z kp < Z.pages.length)) = true then [Value.slice none 0 0] else [])).length = N) (HK : Kept F w wr) :
    (∃ zs', RD (grow F w (((u.setCell ⟨zb, i * 3, none⟩ v).setCell ⟨zb, i * 3 + 1, none⟩ (.int .i64 (N : Int))).setCell ⟨zb, i * 3 + 2, none⟩ (.bool fi))) (((u.setCell ⟨zb, i * 3, none⟩ v).setCell ⟨zb, i * 3 + 1, none⟩ (.int .i64 (N : Int))).setCell ⟨zb, i * 3 + 2, none⟩ (.bool fi)) db zb cap zs' (crashTo S keep tear (i + 1))) ∧
    Kept F w (((u.setCell ⟨zb, i * 3, none⟩ v).setCell ⟨zb, i * 3 + 1, none⟩ (.int .i64 (N : Int))).setCell ⟨zb, i * 3 + 2, none⟩ (.bool fi)) := by
  have hrow := rows_left (t := tt) hvl hsu HX HB (lt_of_block H1.dev) (lt_of_block H1.blk) HO
  have hs : (DevS.crashZ Z kp tt).sure = N := by
    rw [← hN]
    simp only [DevS.crashZ, DevS.left1, List.length_append, List.length_take, hvl]
    split <;> simp
  have hf : (DevS.crashZ Z kp tt).fin = fi := hfi
  have h := rd_anew (z := DevS.crashZ Z kp tt) H1 (by rw [crashTo_len]; exact hlt) HB hrow (by rw [← hCA, crashTo_put hlt]; exact crashTo_wf hwf keep tear _)
  rw [hs, hf, ← hCA, crashTo_put hlt] at h
  obtain ⟨⟨zs', h1⟩, h2⟩ := h
  exact ⟨⟨zs', rd_rounds h1 HK.size h2.size⟩, HK.trans h2⟩
end Go.Proofs.YthmpimjmajoimaaGreatDoor
namespace Go.Proofs.YthmpimjmajoimaaGreatDoor
open Go.RowKit

def kCells (l : List Int) : List Value := l.map (fun k => .int .i64 k)
def tCells (l : List Bool) : List Value := l.map (fun b => .bool b)
end Go.Proofs.YthmpimjmajoimaaGreatDoor
