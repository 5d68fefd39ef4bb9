/-
  The document's table in memory: New.
-/
import Derived.Test.YteoohafadijkmaaDoorTaT
namespace Go.Proofs.YteoohafadijkmaaDoor
open Go.RowKit

/-- append of one number onto a row of one's own: where the row lies. -/
theorem appV (w : World) {ops : Array Oper} {rest : List Oper} {o : Oper} {a : Act} {Q : Exit → Act → World → Prop} (hgd : o.guard = none) (s x : Operand) (ho : o.op = .call { callee := .builtin .append, args := #[s, x], argTypes := #[43, 43] })
    (base n c b : Nat) (v : Value) (ys : List Int) (y : Int) (hs : a.eval s = v) (hown : OwnK w base 3 1 v n (iCells ys)) (hx : a.eval x = .slice (some ⟨b, 0, none⟩) 1 c) (hr : RdV w w.heap.size (some ⟨b, 0, none⟩) [.int .i64 y]) (hlen : n ≤ 100000) (hbase : base ≤ w.heap.size)
    (h : ∀ g cap w', OwnK w' base 3 1 (.slice (some ⟨g, 0, none⟩) (n + 1) cap) (n + 1) (iCells (ys ++ [y])) → w.grownBy w' v.ownBlock → (v.ownBlock = some g ∨ g = w.heap.size) → wpList Tryd.prog ops Q rest (a.put o.dst (.slice (some ⟨g, 0, none⟩) (n + 1) cap)) w') : wpList Tryd.prog ops Q (o :: rest) a w := by
  obtain ⟨i0, hi, hz0, hz1, hz2⟩ := info_parts intInfo
  refine wpList_append_lies w hgd s x 43 ho base 3 i0 (.int .i64 0) 1 8 Tryd.underlying43 hi hz0 hz1 hz2 rfl (by decide) _ n (iCells ys) hs hown ⟨b, 0, none⟩ 1 c [.int .i64 y] hx rfl (srcK hr rfl) (fun u hu => by simp only [List.mem_cons, List.not_mem_nil, or_false] at hu; rcases hu with rfl; rfl) (by omega) (by unfold maxLen; omega) (by omega) hbase w.heap.size rfl ?_
  intro g' cap' w' h2 h3 h4 _
  exact h g' cap' w' (by show World.ownsRow _ _ _ _ _ _ _; simpa [iCells] using h2) h3 h4
/-- A table of the document's that is made. -/
structure RtL (w0 w : World) (tb ks kr : Nat) (vs vr : Value) : Prop where
  b : Blk w tb 46 [vs, vr, .slice none 0 0]
  s : OwnK w (tb + 1) 3 1 vs ks (iCells (List.replicate ks 0))
  r : OwnK w (tb + 1) 3 1 vr kr (iCells ((List.range kr).map (fun (i : Nat) => (i : Int))))
  ap : ∀ j, vs.ownBlock = some j → vr.ownBlock ≠ some j
  old : Below w0.heap.size w0 w
  ge : w0.heap.size ≤ tb
section
variable {w0 wr w7 w8 : World} {tb ks kr g c : Nat} {vs vr : Value}
theorem RtL.cells (h : RtL w0 wr tb ks kr vs vr) : wr.cell? ⟨tb, 0, none⟩ = some vs ∧ wr.cell? ⟨tb, 1, none⟩ = some vr := ⟨h.b.cell 0 (by simp), h.b.cell 1 (by simp)⟩
theorem RtL.up (h : RtL w0 wr tb ks kr vs vr) (hb : Below wr.heap.size wr w7) : RtL w0 w7 tb ks kr vs vr := ⟨h.b.up hb (lt_of_block h.b), h.s.up hb, h.r.up hb, h.ap, below_all h.old hb, h.ge⟩
/-- The row of states is longer by one, the table's block not yet told. -/
theorem RtL.grownS (h : RtL w0 w7 tb ks kr vs vr) (hg : w7.grownBy w8 vs.ownBlock) : Blk w8 tb 46 [vs, vr, .slice none 0 0] ∧ OwnK w8 (tb + 1) 3 1 vr kr (iCells ((List.range kr).map (fun (i : Nat) => (i : Int)))) ∧ Below w0.heap.size w0 w8 := by
  have hk : Kept (fun j => vs.ownBlock = some j) w7 w8 := (Kept.refl _ _).grown hg (fun k e => .inl e)
  have hge := h.ge
  exact ⟨hk.blk h.b (fun e => by have := h.s.own _ e; omega), h.r.keepAt hk (fun j e e2 => h.ap j e2 e), h.old.trans (hk.below h.old.size (fun k e => by have := h.s.own _ e; omega))⟩
theorem RtL.putS (h : RtL w0 w7 tb ks kr vs vr) (hg : w7.grownBy w8 vs.ownBlock) (ho : OwnK w8 (tb + 1) 3 1 (.slice (some ⟨g, 0, none⟩) (ks + 1) c) (ks + 1) (iCells (List.replicate (ks + 1) 0))) (hgg : vs.ownBlock = some g ∨ g = w7.heap.size) :
    RtL w0 (w8.setCell ⟨tb, 0, none⟩ (.slice (some ⟨g, 0, none⟩) (ks + 1) c)) tb (ks + 1) kr (.slice (some ⟨g, 0, none⟩) (ks + 1) c) vr := by
  obtain ⟨h1, h2, h3⟩ := h.grownS hg
  have hge := h.ge
  have hk : Kept (fun j => j = tb) w8 (w8.setCell ⟨tb, 0, none⟩ (.slice (some ⟨g, 0, none⟩) (ks + 1) c)) := kept_put _ _ _ _
  refine ⟨?_, ho.keep hk (fun j hj e => by omega), h2.keep hk (fun j hj e => by omega), fun j e e2 => ?_, h3.trans (hk.below h3.size (fun k e => by omega)), hge⟩
  · have := h1.put 0 (.slice (some ⟨g, 0, none⟩) (ks + 1) c)
    simpa using this
  · simp [Value.ownBlock] at e
    subst e
    rcases hgg with e3 | e3
    · exact h.ap _ e3 e2
    · have := h.r.ltAt _ e2
      omega
theorem RtL.grownR (h : RtL w0 w7 tb ks kr vs vr) (hg : w7.grownBy w8 vr.ownBlock) : Blk w8 tb 46 [vs, vr, .slice none 0 0] ∧ OwnK w8 (tb + 1) 3 1 vs ks (iCells (List.replicate ks 0)) ∧ Below w0.heap.size w0 w8 := by
  have hk : Kept (fun j => vr.ownBlock = some j) w7 w8 := (Kept.refl _ _).grown hg (fun k e => .inl e)
  have hge := h.ge
  exact ⟨hk.blk h.b (fun e => by have := h.r.own _ e; omega), h.s.keepAt hk (fun j e e2 => h.ap j e e2), h.old.trans (hk.below h.old.size (fun k e => by have := h.r.own _ e; omega))⟩
theorem RtL.putR (h : RtL w0 w7 tb ks kr vs vr) (hg : w7.grownBy w8 vr.ownBlock) (ho : OwnK w8 (tb + 1) 3 1 (.slice (some ⟨g, 0, none⟩) (kr + 1) c) (kr + 1) (iCells ((List.range (kr + 1)).map (fun (i : Nat) => (i : Int))))) (hgg : vr.ownBlock = some g ∨ g = w7.heap.size) :
    RtL w0 (w8.setCell ⟨tb, 1, none⟩ (.slice (some ⟨g, 0, none⟩) (kr + 1) c)) tb ks (kr + 1) vs (.slice (some ⟨g, 0, none⟩) (kr + 1) c) := by
  obtain ⟨h1, h2, h3⟩ := h.grownR hg
  have hge := h.ge
  have hk : Kept (fun j => j = tb) w8 (w8.setCell ⟨tb, 1, none⟩ (.slice (some ⟨g, 0, none⟩) (kr + 1) c)) := kept_put _ _ _ _
  refine ⟨?_, h2.keep hk (fun j hj e => by omega), ho.keep hk (fun j hj e => by omega), fun j e e2 => ?_, h3.trans (hk.below h3.size (fun k e => by omega)), hge⟩
  · have := h1.put 1 (.slice (some ⟨g, 0, none⟩) (kr + 1) c)
    simpa using this
  · simp [Value.ownBlock] at e2
    subst e2
    rcases hgg with e3 | e3
    · exact h.ap _ e e3
    · have := h.s.ltAt _ e
      omega
end
def RtNew (n : Int) (w : World) (r : Ending) (w' : World) : Prop :=
  Below w.heap.size w w' ∧ if 1 ≤ n ∧ n ≤ 24 then ∃ rt, r = .returned (.tuple #[.pointer (some ⟨rt, 0, none⟩), .int .i64 0]) ∧ RtF (fun k => w.heap.size ≤ k ∧ k < w'.heap.size) w' rt (TaS.new n.toNat) else r = .returned (.tuple #[.pointer none, .int .i64 1])
theorem range_snoc (k : Nat) : (List.range (k + 1)).map (fun (i : Nat) => (i : Int)) = (List.range k).map (fun (i : Nat) => (i : Int)) ++ [(k : Int)] := by rw [List.range_succ, List.map_append]; rfl
theorem RtL.done {w0 w : World} {tb n : Nat} {vs vr : Value} (h : RtL w0 w tb n n vs vr) (h1 : 1 ≤ n) (h2 : n ≤ 24) : RtF (fun k => w0.heap.size ≤ k ∧ k < w.heap.size) w tb (TaS.new n) := by
  have hge := h.ge
  have hlt := lt_of_block h.b
  obtain ⟨g, cap, e, hb, hg⟩ := World.ownsRow.form h.s (by omega)
  subst e
  have hsl : (TaS.new n).st.length = n := by simp [TaS.new]
  have hrl : (TaS.new n).row.length = n := by simp [TaS.new]
  refine ⟨g, cap, vr, .slice none 0 0, ⟨by rw [hsl]; exact h.b, by rw [hsl]; exact h.s, by rw [hrl]; exact h.r, OwnK.nil _ _ _ _, fun e => h.ap g rfl e, fun e => by cases e⟩, ⟨hge, hlt⟩, ⟨by omega, hg⟩, fun j e => ⟨by have := h.r.own j e; omega, h.r.ltAt j e⟩, fun j e => (by cases e), fun k hk => hk.2, TaS.WF.new h1 h2⟩
set_option maxHeartbeats 2000000 in
theorem rtnew_at (n : Int) (w : World) : Calls Tryd.prog 6 #[.int .i64 n] w (RtNew n w) := by
  by_cases h1 : n < 1
  · have HE : Hid (RtNew n w (.returned (.tuple #[.pointer none, .int .i64 1])) w) := Lib.hid ⟨Below.refl _ _, by rw [if_neg (by omega)]⟩
    have d1 : decide (n < 1) = true := by simpa using h1
    go_enter Tryd.func6, Tryd.ntmps6
    go_wp2_with fail
    go_ret2
    exact HE.out
  by_cases h2 : 24 < n
  · have HE : Hid (RtNew n w (.returned (.tuple #[.pointer none, .int .i64 1])) w) := Lib.hid ⟨Below.refl _ _, by rw [if_neg (by omega)]⟩
    have d1 : decide (n < 1) = false := by simpa using h1
    have d2 : decide (24 < n) = true := by simpa using h2
    go_enter Tryd.func6, Tryd.ntmps6
    go_wp2_with fail
    go_ret2
    exact HE.out
  obtain ⟨m, rfl⟩ : ∃ m : Nat, n = (m : Int) := ⟨n.toNat, by omega⟩
  have hm1 : 1 ≤ m := by omega
  have hm2 : m ≤ 24 := by omega
  have d1 : ¬ (m : Int) < 1 := h1
  have d2 : ¬ (24 : Int) < (m : Int) := h2
  have HE : Hid (∀ u vs vr, RtL w u w.heap.size m m vs vr → RtNew (m : Int) w (.returned (.tuple #[.pointer (some ⟨w.heap.size, 0, none⟩), .int .i64 0])) u) := Lib.hid (fun u vs vr hl => ⟨hl.old, by rw [if_pos (by omega)]; exact ⟨_, rfl, hl.done hm1 hm2⟩⟩)
  have HL0 : Hid (RtL w (w.alloc (.cells #[.slice none 0 0, .slice none 0 0, .slice none 0 0] 46)) w.heap.size 0 0 (.slice none 0 0) (.slice none 0 0)) := Lib.hid ⟨heap_alloc_new w _, OwnK.nil _ _ _ _, OwnK.nil _ _ _ _, fun j e => (by cases e), (Below.refl _ _).alloc (Nat.le_refl _) _, Nat.le_refl _⟩
  clear h1 h2
  go_enter Tryd.func6, Tryd.ntmps6
  go_wp2_with fail
  clear d1 d2
  go_loopg [5] m (fun q y wr => ∃ (k : Nat) (vs vr : Value), k ≤ m ∧ q = m - k ∧ y = .int .i64 (k : Int) ∧ RtL w wr w.heap.size k k vs vr)
  case atStart => exact ⟨0, _, _, by omega, by omega, rfl, HL0.out⟩
  case round =>
    clear HL0
    obtain ⟨k, vs, vr, hk, hq, rfl, hl⟩ := hrel
    have HQ := Lib.hid hq
    have HL := Lib.hid hl
    clear hq hl
    by_cases hlt : k < m
    · obtain ⟨A1, c1, rfl, _, _, _⟩ := HL.out.s.form
      obtain ⟨A2, c2, rfl, _, _, _⟩ := HL.out.r.form
      obtain ⟨w7, hw7⟩ : ∃ u, wr.alloc (.cells #[.int .i64 0] 3) = u := ⟨_, rfl⟩
      have hb7 : Below wr.heap.size wr w7 := by rw [← hw7]; exact (Below.refl _ _).alloc (Nat.le_refl _) _
      have HL7 := Lib.hid (HL.out.up hb7)
      have HR7 : Hid (RdV w7 w7.heap.size (some ⟨wr.heap.size, 0, none⟩) [.int .i64 0]) := Lib.hid (by rw [← hw7]; exact row_rd wr [.int .i64 0])
      have HGE7 : Hid (w.heap.size + 1 ≤ w7.heap.size) := Lib.hid (by have := lt_of_block HL7.out.b; omega)
      obtain ⟨y0, y1⟩ := HL.out.cells
      clear hb7
      go_wp2_with (first
        | (at_builtin; (refine appV _ rfl (.tmp 23) (.tmp 24) rfl (w.heap.size + 1) k 1 wr.heap.size (.slice A1 k c1) (List.replicate k 0) 0 rfl HL7.out.s rfl HR7.out (by omega) HGE7.out ?_; intro g8 c8 w8 ho hg hgg; have ho2 : OwnK w8 (w.heap.size + 1) 3 1 (.slice (some ⟨g8, 0, none⟩) (k + 1) c8) (k + 1) (iCells (List.replicate (k + 1) 0)) := (by rw [List.replicate_succ']; exact ho); have y8 := (HL7.out.grownS hg).1.cell 0 (by simp); have f8 := (HL7.out.grownS hg).1.free 0; have HL9 := Lib.hid (HL7.out.putS hg ho2 hgg); obtain ⟨w9, hw9⟩ : ∃ u, w8.setCell ⟨w.heap.size, 0, none⟩ (.slice (some ⟨g8, 0, none⟩) (k + 1) c8) = u := ⟨_, rfl⟩; rw [hw9] at HL9; obtain ⟨y9a, y9⟩ := HL9.out.cells; obtain ⟨w10, hw10⟩ : ∃ u, w9.alloc (.cells #[.int .i64 (k : Int)] 3) = u := ⟨_, rfl⟩; have hb10 : Below w9.heap.size w9 w10 := (by rw [← hw10]; exact (Below.refl _ _).alloc (Nat.le_refl _) _); have HL10 := Lib.hid (HL9.out.up hb10); have HR10 : Hid (RdV w10 w10.heap.size (some ⟨w9.heap.size, 0, none⟩) [.int .i64 (k : Int)]) := Lib.hid (by rw [← hw10]; exact row_rd w9 [.int .i64 (k : Int)]); have HGE10 : Hid (w.heap.size + 1 ≤ w10.heap.size) := Lib.hid (by have := lt_of_block HL10.out.b; omega); clear ho ho2 hg hgg hb10 y0 y1))
        | (at_builtin; (refine appV _ rfl (.tmp 32) (.tmp 34) rfl (w.heap.size + 1) k 1 w9.heap.size (.slice A2 k c2) ((List.range k).map (fun (i : Nat) => (i : Int))) (k : Int) rfl HL10.out.r rfl HR10.out (by omega) HGE10.out ?_; intro g11 c11 w11 ho hg hgg; have ho2 : OwnK w11 (w.heap.size + 1) 3 1 (.slice (some ⟨g11, 0, none⟩) (k + 1) c11) (k + 1) (iCells ((List.range (k + 1)).map (fun (i : Nat) => (i : Int)))) := (by rw [range_snoc]; exact ho); have y11 := (HL10.out.grownR hg).1.cell 1 (by simp); have f11 := (HL10.out.grownR hg).1.free 1; have HL12 := Lib.hid (HL10.out.putR hg ho2 hgg); clear ho ho2 hg hgg y9 y9a))
        | fail)
      go_roundg (m - (k + 1))
      case rel => exact ⟨k + 1, _, _, by omega, rfl, by go_num, HL12.out⟩
      case measure => have := HQ.out; omega
    · obtain rfl : k = m := by omega
      go_wp2_with fail
      go_ret2
      exact HE.out _ _ _ HL.out
end Go.Proofs.YteoohafadijkmaaDoor
