/-
  The document's device: New.
-/
import Derived.Test.YtljpkngbhdplbaaDoorZnsH
namespace Go.Proofs.YtljpkngbhdplbaaDoor
open Go.RowKit

/-- The cells of n empty zones. -/
def zCells : Nat → List Value
  | 0 => []
  | n + 1 => zCells n ++ [.slice none 0 0, .int .i64 0, .bool false]
theorem zCells_len (n : Nat) : (zCells n).length = n * 3 := by
  induction n with
  | zero => rfl
  | succ n ih => simp only [zCells, List.length_append, ih, List.length_cons, List.length_nil]; omega
theorem zCells_get (n i : Nat) (h : i < n) : (zCells n)[i * 3]? = some (.slice none 0 0) ∧ (zCells n)[i * 3 + 1]? = some (.int .i64 0) ∧ (zCells n)[i * 3 + 2]? = some (.bool false) := by
  induction n with
  | zero => omega
  | succ n ih =>
    have hl := zCells_len n
    by_cases hi : i < n
    · obtain ⟨a, b, c⟩ := ih hi
      simp only [zCells]
      rw [List.getElem?_append_left (by omega), List.getElem?_append_left (by omega), List.getElem?_append_left (by omega)]
      exact ⟨a, b, c⟩
    · obtain rfl : i = n := by omega
      simp only [zCells]
      rw [List.getElem?_append_right (by omega), List.getElem?_append_right (by omega), List.getElem?_append_right (by omega), hl]
      simp
theorem infoZone : (Tryd.prog.info? 79).map (fun i => (i.zero, i.size, i.bytes)) = some (some (.agg #[.slice none 0 0, .int .i64 0, .bool false]), 3, 40) := by kernel_rfl
/-- Empty zones of the call's own. -/
def ZOwn (w : World) (base : Nat) (v : Value) (n : Nat) : Prop := w.ownsRow base 79 3 v n (zCells n)
theorem ZOwn.up {w w' : World} {base : Nat} {v : Value} {n : Nat} (h : ZOwn w base v n) (hb : Below w.heap.size w w') : ZOwn w' base v n :=
  ⟨h.1, h.2.imp id fun ⟨g', c', cur, hv, hg, hc, r⟩ => ⟨g', c', cur, hv, hg, (hb.block g' (lt_of_block hc)).trans hc, r⟩⟩
theorem ZOwn.far {w w' : World} {base : Nat} {v : Value} {n k : Nat} (h : ZOwn w base v n) (hk : Kept (fun j => j = k) w w') (hb : k < base) : ZOwn w' base v n :=
  ⟨h.1, h.2.imp id fun ⟨g', c', cur, hv, hg, hc, r⟩ => ⟨g', c', cur, hv, hg, (hk.block g' (lt_of_block hc) (fun e => by subst e; omega)).trans hc, r⟩⟩
theorem ZOwn.own {w : World} {base : Nat} {v : Value} {n : Nat} (h : ZOwn w base v n) : ∀ j, v.ownBlock = some j → base ≤ j ∧ j < w.heap.size := by
  rcases h.2 with ⟨rfl, _⟩ | ⟨g, cap, cur, rfl, hb, hg, _⟩
  · intro j hj
    cases hj
  · intro j hj
    simp [Value.ownBlock] at hj
    subst hj
    exact ⟨hb, lt_of_block hg⟩
theorem ZOwn.out {w : World} {base : Nat} {v : Value} {n : Nat} (h : ZOwn w base v n) (hn : 0 < n) : ∃ g cap cur, v = .slice (some ⟨g, 0, none⟩) n cap ∧ base ≤ g ∧ Blk w g 79 cur ∧ n ≤ cap ∧ cur.length = 3 * cap ∧
    ∀ i, i < n → cur[i * 3]? = some (.slice none 0 0) ∧ cur[i * 3 + 1]? = some (.int .i64 0) ∧ cur[i * 3 + 2]? = some (.bool false) := by
  rcases h.2 with ⟨rfl, h0⟩ | ⟨g, cap, cur, rfl, hb, hg, hc, _, hs, ht⟩
  · omega
  · refine ⟨g, cap, cur.toList, rfl, hb, hg, hc, by rw [Array.length_toList, hs]; omega, fun i hi => ?_⟩
    obtain ⟨a, b, c⟩ := zCells_get n i hi
    have key : ∀ k x, (zCells n)[k]? = some x → cur.toList[k]? = some x := fun k x e => by
      rw [← ht, List.getElem?_take] at e
      split at e
      · exact e
      · cases e
    exact ⟨key _ _ a, key _ _ b, key _ _ c⟩

/-- append of an empty zone. -/
theorem appZ (w : World) {ops : Array Oper} {rest : List Oper} {o : Oper} {a : Act} {Q : Exit → Act → World → Prop} (hgd : o.guard = none) (s x : Operand) (ho : o.op = .call { callee := .builtin .append, args := #[s, x], argTypes := #[75, 75] })
    (base n c e : Nat) (v : Value) (hs : a.eval s = v) (hown : ZOwn w base v n) (hx : a.eval x = .slice (some ⟨e, 0, none⟩) 1 c) (he : Blk w e 79 [.slice none 0 0, .int .i64 0, .bool false]) (hn : n ≤ 1000) (hbase : base ≤ w.heap.size)
    (h : ∀ v' w', ZOwn w' base v' (n + 1) → w.grownBy w' v.ownBlock → wpList Tryd.prog ops Q rest (a.put o.dst v') w') : wpList Tryd.prog ops Q (o :: rest) a w := by
  obtain ⟨i0, hi, hz0, hz1, hz2⟩ := info_parts infoZone
  refine wpList_append_own w hgd s x 75 ho base 79 i0 (.agg #[.slice none 0 0, .int .i64 0, .bool false]) 3 40 Tryd.underlying75 hi hz0 hz1 hz2 rfl (by decide) v n (zCells n) hs hown ⟨e, 0, none⟩ 1 c [.slice none 0 0, .int .i64 0, .bool false] hx rfl ?_ ?_ (by unfold maxLen; omega) (by omega) hbase ?_
  · intro j u hj
    obtain ⟨hjl, rfl⟩ := List.getElem?_eq_some_iff.1 hj
    have := he.cell j hjl
    rcases j with _ | j
    · simpa [Addr.add] using this
    · simpa [Addr.add] using this
  · intro u hu
    simp at hu
    rcases hu with rfl | rfl | rfl <;> rfl
  · intro v' w' h2 h3 _
    exact h v' w' h2 h3

def newD (n p : Int) : Option DevS := if 1 ≤ n ∧ n ≤ 24 ∧ 1 ≤ p ∧ p ≤ 16 then some (DevS.new n.toNat p.toNat) else none
/-- What New and Load answer. -/
def MadeIs (o : Option DevS) (w : World) (r : Ending) (w' : World) : Prop :=
  match o with
  | none => r = .returned (.tuple #[.pointer none, .int .i64 1]) ∧ Below w.heap.size w w'
  | some S => ∃ db, r = .returned (.tuple #[.pointer (some ⟨db, 0, none⟩), .int .i64 0]) ∧ RDev (fun k => w.heap.size ≤ k ∧ k < w'.heap.size) w' db S ∧ Below w.heap.size w w'
/-- A new device, whose zones' pages are nil. -/
def NewIs (n p : Nat) (w : World) (r : Ending) (w' : World) : Prop := ∃ db zb cap zs, r = .returned (.tuple #[.pointer (some ⟨db, 0, none⟩), .int .i64 0]) ∧ RD (fun k => w.heap.size ≤ k ∧ k < w'.heap.size) w' db zb cap zs (DevS.new n p) ∧ (∀ i, i < n → zs[i * 3]? = some (.slice none 0 0)) ∧ Below w.heap.size w w'
theorem new_end {w wr : World} {n p db : Nat} {V : Value} (hdb : w.heap.size ≤ db) (hB : Blk wr db 77 [V, .int .i64 (p : Int), .int .i64 (-1), .int .i64 0, .bool false]) (hZ : ZOwn wr (db + 1) V n) (hn : 1 ≤ n) (hn2 : n ≤ 24) (hp : 1 ≤ p) (hp2 : p ≤ 16) : ∃ zb cap zs, RD (fun k => w.heap.size ≤ k ∧ k < wr.heap.size) wr db zb cap zs (DevS.new n p) ∧ ∀ i, i < n → zs[i * 3]? = some (.slice none 0 0) := by
  obtain ⟨g, cap, cur, rfl, hg, hb, hc, hl, hx⟩ := hZ.out (by omega)
  refine ⟨g, cap, cur, ⟨?_, hb, fun i hi => ?_, by simpa [DevS.new] using hc, hl, ⟨hdb, lt_of_block hB⟩, ⟨by omega, lt_of_block hb⟩, by omega, fun k hk => hk.2, DevS.new_wf hn hn2 hp hp2⟩, fun i hi => (hx i hi).1⟩
  · simpa [DevS.new] using hB
  · have hi' : i < n := by simpa [DevS.new] using hi
    obtain ⟨a, b, c⟩ := hx i hi'
    refine ⟨_, a, ?_, ?_, ?_⟩
    · simpa [DevS.new, ZoneS.empty] using b
    · simpa [DevS.new, ZoneS.empty] using c
    · simp only [DevS.new, List.getElem_replicate, ZoneS.empty]
      exact RowsF.nil _ _
set_option maxHeartbeats 1000000 in
theorem rnew_yes {w : World} (n p : Nat) (hn : 1 ≤ n) (hn2 : n ≤ 24) (hp : 1 ≤ p) (hp2 : p ≤ 16) : Calls Tryd.prog 12 #[.int .i64 (n : Int), .int .i64 (p : Int)] w (NewIs n p w) := by
  have HN := Lib.hid (And.intro hn (And.intro hn2 (And.intro hp hp2)))
  have d1 : decide ((n : Int) < 1) = false := by simp; omega
  have d2 : decide ((24 : Int) < (n : Int)) = false := by simp; omega
  have d3 : decide ((p : Int) < 1) = false := by simp; omega
  have d4 : decide ((16 : Int) < (p : Int)) = false := by simp; omega
  clear hn hp
  go_enter Tryd.func12, Tryd.ntmps12
  go_wp2_with fail
  go_loopg [7] n (fun q x wr => ∃ (i : Nat) (V : Value), i ≤ n ∧ q = n - i ∧ x = .int .i64 i ∧ Blk wr w.heap.size 77 [V, .int .i64 (p : Int), .int .i64 (-1), .int .i64 0, .bool false] ∧ ZOwn wr (w.heap.size + 1) V i ∧ Below w.heap.size w wr)
  case atStart =>
    refine ⟨0, .slice none 0 0, by omega, by omega, rfl, ?_, ⟨rfl, .inl ⟨rfl, rfl⟩⟩, Below.alloc (Below.refl _ _) (Nat.le_refl _) _⟩
    exact heap_alloc_new w _
  case round =>
    obtain ⟨i, V, hi, hq, rfl, hB, hZ, hbl⟩ := hrel
    have HQ := Lib.hid hq
    have HB := Lib.hid hB
    have HZ := Lib.hid hZ
    have HL := Lib.hid hbl
    have c0 : wr.cell? ⟨w.heap.size, 0, none⟩ = some V := hB.cell 0 (by simp)
    have f0 : wr.frozen? ⟨w.heap.size, 0, none⟩ = false := hB.free 0
    have hlt := lt_of_block hB
    clear hq hB hZ hbl
    by_cases hin : i < n
    · have HBE : Hid (Below w.heap.size w (wr.alloc (.cells #[.slice none 0 0, .int .i64 0, .bool false] 79))) := Lib.hid (HL.out.alloc HL.out.size _)
      have HE : Hid (Blk (wr.alloc (.cells #[.slice none 0 0, .int .i64 0, .bool false] 79)) wr.heap.size 79 [.slice none 0 0, .int .i64 0, .bool false]) := Lib.hid (heap_alloc_new wr _)
      have HZE : Hid (ZOwn (wr.alloc (.cells #[.slice none 0 0, .int .i64 0, .bool false] 79)) (w.heap.size + 1) V i) := Lib.hid (HZ.out.up (Below.alloc (Below.refl _ _) (Nat.le_refl _) _))
      have HBW : Hid (Blk (wr.alloc (.cells #[.slice none 0 0, .int .i64 0, .bool false] 79)) w.heap.size 77 [V, .int .i64 (p : Int), .int .i64 (-1), .int .i64 0, .bool false]) := Lib.hid (HB.out.up (Below.alloc (Below.refl wr.heap.size wr) (Nat.le_refl _) _) hlt)
      go_wp2_with (first
        | (at_builtin; refine appZ _ rfl (.tmp 34) (.tmp 36) rfl (w.heap.size + 1) i 1 wr.heap.size V rfl HZE.out rfl HE.out ?h1a ?h1b ?_; (case h1a => omega); (case h1b => rw [World.size_alloc]; omega); intro v2 w2 hown hgr; obtain ⟨g2, cap2, rfl⟩ : ∃ g cap, v2 = .slice (some ⟨g, 0, none⟩) (i + 1) cap := (by obtain ⟨g, cap, _, e, _⟩ := hown.out (by omega); exact ⟨g, cap, e⟩); have HZ2 := Lib.hid hown; have HB2 := Lib.hid (HBW.out.kept hgr (fun e => by have := HZE.out.own _ e.symm; omega)); have HL2 := Lib.hid (HBE.out.grown hgr HBE.out.size (fun k e => by have := HZE.out.own _ e; omega)); have c2 : w2.cell? ⟨w.heap.size, 0, none⟩ = some V := HB2.out.cell 0 (by simp); have f2 : w2.frozen? ⟨w.heap.size, 0, none⟩ = false := HB2.out.free 0; clear hown hgr)
        | fail)
      go_roundg (n - (i + 1))
      case rel => exact ⟨i + 1, .slice (some ⟨g2, 0, none⟩) (i + 1) cap2, by omega, rfl, by go_num, HB2.out.put 0 _, HZ2.out.far (kept_put _ _ _ _) (by omega), HL2.out.setCell (Nat.le_refl _) _⟩
      case measure => have := HQ.out; omega
    · obtain rfl : i = n := by omega
      go_wp2_with fail
      go_ret2
      obtain ⟨zb, cap, zs, h1, h2⟩ := new_end (Nat.le_refl _) HB.out HZ.out HN.out.1 HN.out.2.1 HN.out.2.2.1 HN.out.2.2.2
      exact ⟨w.heap.size, zb, cap, zs, rfl, h1, h2, HL.out⟩
theorem rnew_no {w : World} (n p : Int) (h : ¬ (1 ≤ n ∧ n ≤ 24 ∧ 1 ≤ p ∧ p ≤ 16)) : Calls Tryd.prog 12 #[.int .i64 n, .int .i64 p] w (MadeIs none w) := by
  by_cases h1 : n < 1
  · have d1 : decide (n < 1) = true := by simpa using h1
    clear h
    go_enter Tryd.func12, Tryd.ntmps12
    go_wp2_with fail
    go_ret2
    exact ⟨rfl, Below.refl _ _⟩
  · have d1 : decide (n < 1) = false := by simpa using h1
    by_cases h2 : 24 < n
    · have d2 : decide (24 < n) = true := by simpa using h2
      clear h
      go_enter Tryd.func12, Tryd.ntmps12
      go_wp2_with fail
      go_ret2
      exact ⟨rfl, Below.refl _ _⟩
    · have d2 : decide (24 < n) = false := by simpa using h2
      by_cases h3 : p < 1
      · have d3 : decide (p < 1) = true := by simpa using h3
        clear h
        go_enter Tryd.func12, Tryd.ntmps12
        go_wp2_with fail
        go_ret2
        exact ⟨rfl, Below.refl _ _⟩
      · have d3 : decide (p < 1) = false := by simpa using h3
        have h4 : 16 < p := by omega
        have d4 : decide (16 < p) = true := by simpa using h4
        clear h
        go_enter Tryd.func12, Tryd.ntmps12
        go_wp2_with fail
        go_ret2
        exact ⟨rfl, Below.refl _ _⟩
theorem rnew_at {w : World} (n p : Int) : Calls Tryd.prog 12 #[.int .i64 n, .int .i64 p] w (MadeIs (newD n p) w) := by
  by_cases h : 1 ≤ n ∧ n ≤ 24 ∧ 1 ≤ p ∧ p ≤ 16
  · obtain ⟨a, rfl⟩ := Int.eq_ofNat_of_zero_le (show 0 ≤ n by omega)
    obtain ⟨b, rfl⟩ := Int.eq_ofNat_of_zero_le (show 0 ≤ p by omega)
    have e : newD (a : Int) (b : Int) = some (DevS.new a b) := by
      unfold newD
      rw [if_pos h]
      rfl
    rw [e]
    refine (rnew_yes a b (by omega) (by omega) (by omega) (by omega)).mono ?_
    rintro r w' ⟨db, zb, cap, zs, h1, h2, _, h4⟩
    exact ⟨db, h1, ⟨zb, cap, zs, h2⟩, h4⟩
  · have e : newD n p = none := by
      unfold newD
      rw [if_neg h]
    rw [e]
    exact rnew_no n p h
end Go.Proofs.YtljpkngbhdplbaaDoor
