/-
  The landed table in memory: its cells, two rows of the call's own; what keeps them. What writing cells does to a block; one element less in a row.
-/
import Derived.Test.YteoohafadijkmaaZoM
import Derived.Test.YteoohafadijkmaaRowK
import Derived.Test.YteoohafadijkmaaCel
import Derived.Test.YteoohafadijkmaaTaOps
import Derived.Lib.SliceRun
import Derived.Deep.AppendLies
import Derived.Deep.RegionLaw
namespace Go.Proofs.Yteoohafadijkmaa
open Go.RowKit

def eC (e : Int × Nat) : List Value := [.int .i64 e.1, .int .u32 (e.2 : Int)]
def esC (l : List (Int × Nat)) : List Value := l.flatMap eC
def iC (z : Int) : List Value := [.int .i64 z]
theorem iC_all (l : List Int) : iCells l = l.flatMap iC := by
  unfold iCells iC
  induction l with
  | nil => rfl
  | cons a l ih => rw [List.map_cons, List.flatMap_cons, ih]; rfl
theorem esC_len (l : List (Int × Nat)) : (esC l).length = l.length * 2 := fk_len eC 2 (fun _ => rfl) l
theorem esC_one {l : List (Int × Nat)} : ∀ u ∈ esC l, u.oneCell' = true := by
  intro u hu
  unfold esC at hu
  rw [List.mem_flatMap] at hu
  obtain ⟨e, _, he⟩ := hu
  simp only [eC, List.mem_cons, List.not_mem_nil, or_false] at he
  rcases he with rfl | rfl <;> rfl
theorem esC_app (l r : List (Int × Nat)) : esC (l ++ r) = esC l ++ esC r := by simp [esC]
theorem e_cells {w : World} {b o : Nat} {l : List (Int × Nat)} (h : ∀ i (h : i < (esC l).length), w.cell? ⟨b, o + i, none⟩ = some (esC l)[i]) (i : Nat) (hi : i < l.length) : w.cell? ⟨b, o + i * 2, none⟩ = some (.int .i64 l[i].1) ∧ w.cell? ⟨b, o + i * 2 + 1, none⟩ = some (.int .u32 (l[i].2 : Int)) := by
  have hl := esC_len l
  have g0 := fk_get eC 2 (fun _ => rfl) l i 0 hi (by omega)
  have g1 := fk_get eC 2 (fun _ => rfl) l i 1 hi (by omega)
  have e0 := h (i * 2) (by omega)
  have e1 := h (i * 2 + 1) (by omega)
  rw [← Nat.add_assoc] at e1
  have q0 : (esC l)[i * 2]? = some (.int .i64 l[i].1) := g0
  have q1 : (esC l)[i * 2 + 1]? = some (.int .u32 (l[i].2 : Int)) := g1
  rw [List.getElem?_eq_getElem (by omega)] at q0 q1
  exact ⟨e0.trans q0, e1.trans q1⟩
theorem endInfo : (Try.prog.info? 48).map (fun i => (i.zero, i.size, i.bytes)) = some (some (.agg #[.int .i64 0, .int .u32 0]), 2, 16) := by kernel_rfl
theorem OwnK.zkeep {w w' : World} {base k n : Nat} {T : TypeId} {v : Value} {cs : List Value} {F : Nat → Prop} (h : OwnK w base T k v n cs) (hk : Kept F w w') (hn : ∀ j, v.ownBlock = some j → ¬ F j) : OwnK w' base T k v n cs :=
  ⟨h.1, h.2.imp id fun ⟨g', c', cur, hv, hb, hc, r⟩ => ⟨g', c', cur, hv, hb, (hk.block g' (lt_of_block hc) (hn g' (by rw [hv]; rfl))).trans hc, r⟩⟩
theorem OwnK.zlt {w : World} {base k n : Nat} {T : TypeId} {v : Value} {cs : List Value} (h : OwnK w base T k v n cs) : ∀ j, v.ownBlock = some j → j < w.heap.size := by
  intro j hj
  rcases h.2 with ⟨rfl, _⟩ | ⟨g, cap, cur, rfl, _, hg, _⟩
  · cases hj
  · simp [Value.ownBlock] at hj
    subst hj
    exact lt_of_block hg
/-- Cells that are written, one behind the other. -/
theorem cells_keep (g : Nat) : ∀ (vs : List Value) (o : Nat) (a w : World), Kept (fun k => k = g) a w → Kept (fun k => k = g) a (w.setCells g o vs)
  | [], _, _, _, h => h
  | v :: r, o, a, w, h => cells_keep g r (o + 1) a (w.setCell ⟨g, o, none⟩ v) (h.put (.inl rfl) o v)
theorem cells_lay (g : Nat) (T : TypeId) : ∀ (vs : List Value) (o : Nat) (w : World) (cs : List Value), Blk w g T cs → o + vs.length ≤ cs.length → Blk (w.setCells g o vs) g T (cs.take o ++ vs ++ cs.drop (o + vs.length))
  | [], o, w, cs, h, _ => by
    have e : cs.take o ++ [] ++ cs.drop (o + ([] : List Value).length) = cs := by simp
    rw [e]
    exact h
  | v :: r, o, w, cs, h, hl => by
    rw [List.length_cons] at hl
    have := cells_lay g T r (o + 1) (w.setCell ⟨g, o, none⟩ v) (cs.set o v) (h.put o v) (by rw [List.length_set]; omega)
    have e : (cs.set o v).take (o + 1) ++ r ++ (cs.set o v).drop (o + 1 + r.length) = cs.take o ++ (v :: r) ++ cs.drop (o + (v :: r).length) := by
      rw [List.take_succ_eq_append_getElem (by rw [List.length_set]; omega), List.take_set_of_le (by omega), List.getElem_set_self, List.drop_set_of_lt (by omega), List.length_cons, show o + 1 + r.length = o + (r.length + 1) by omega]
      simp
    rw [e] at this
    exact this
/-- A row without one of its elements: what stands behind it is written one place ahead, and the last place's cells anew. -/
theorem own_erase {α : Type} (f : α → List Value) {k : Nat} (hk : ∀ a, (f a).length = k) {l : List α} {g n c p s : Nat} {T : TypeId} {w : World} (h : OwnK w 0 T k (.slice (some ⟨g, 0, none⟩) n c) n (l.flatMap f)) (hl : l.length = n) (hp : p < n) (hs : s + 1 = n) (zs : List Value) (hz : zs.length = k) :
    OwnK ((w.setCells g (p * k) ((l.drop (p + 1)).flatMap f)).setCells g (s * k) zs) 0 T k (.slice (some ⟨g, 0, none⟩) s c) s ((l.eraseIdx p).flatMap f) := by
  rcases h.2 with ⟨h', _⟩ | ⟨g', c', cur, hv, hb, hg, hc, hm, hsz, ht⟩
  · cases h'
  · injection hv with e1 e2 e3
    have e1 := Option.some.inj e1
    injection e1 with e1
    subst e1 e3
    have hsl : cur.toList.length = cur.size := by simp
    have hnk : n * k ≤ c * k := Nat.mul_le_mul_right k hc
    have hd : (l.drop (p + 1)).length = s - p := by rw [List.length_drop]; omega
    have hdl : ((l.drop (p + 1)).flatMap f).length = (s - p) * k := by rw [fk_len f k hk, hd]
    have hpk : p * k + (s - p) * k = s * k := by rw [← Nat.add_mul]; congr 1; omega
    have hsk : s * k + k = n * k := by rw [← hs, Nat.add_mul, Nat.one_mul]
    have b1 := cells_lay g T ((l.drop (p + 1)).flatMap f) (p * k) w cur.toList hg (by rw [hdl]; omega)
    rw [hdl, hpk] at b1
    obtain ⟨cs1, hcs1⟩ : ∃ x, cur.toList.take (p * k) ++ (l.drop (p + 1)).flatMap f ++ cur.toList.drop (s * k) = x := ⟨_, rfl⟩
    rw [hcs1] at b1
    have hl1 : cs1.length = cur.size := by
      rw [← hcs1]
      simp only [List.length_append, List.length_take, List.length_drop, hdl, hsl]
      have : p * k ≤ s * k := by omega
      omega
    have b2 := cells_lay g T zs (s * k) _ cs1 b1 (by rw [hl1, hz]; omega)
    have hlt : (cs1.take (s * k)).length = s * k := by rw [List.length_take]; omega
    refine ⟨by rw [fk_len f k hk, List.length_eraseIdx_of_lt (by omega), hl, show n - 1 = s by omega], .inr ⟨g, c, _, rfl, Nat.zero_le _, b2, by omega, hm, ?_, ?_⟩⟩
    · simp only [List.size_toArray, List.length_append, List.length_drop, hlt, hz, hl1]
      omega
    · have hx : (cs1.take (s * k) ++ zs ++ cs1.drop (s * k + zs.length)).take (s * k) = cs1.take (s * k) := by
        rw [List.append_assoc, List.take_append_of_le_length (by omega), List.take_of_length_le (by omega)]
      rw [hx, ← hcs1]
      have hpl : (cur.toList.take (p * k)).length = p * k := by rw [List.length_take]; have : p * k ≤ s * k := by omega
                                                                omega
      rw [List.take_append_of_le_length (by rw [List.length_append, hpl, hdl]; omega), List.take_of_length_le (by rw [List.length_append, hpl, hdl]; omega)]
      have ht2 : cur.toList.take (p * k) = (l.flatMap f).take (p * k) := by
        rw [← ht, List.take_take, Nat.min_eq_left (by omega)]
      have hsp : (l.flatMap f).take (p * k) = (l.take p).flatMap f := by
        conv => lhs; rw [← List.take_append_drop p l]
        rw [List.flatMap_append, List.take_append_of_le_length (by rw [fk_len f k hk, List.length_take, Nat.min_eq_left (by omega)]; exact Nat.le_refl _), List.take_of_length_le (by rw [fk_len f k hk, List.length_take, Nat.min_eq_left (by omega)]; exact Nat.le_refl _)]
      rw [ht2, hsp, List.eraseIdx_eq_take_drop_succ, List.flatMap_append]
theorem OwnK.form2 {w : World} {base k n : Nat} {T : TypeId} {v : Value} {cs : List Value} (h : OwnK w base T k v n cs) (hn : 0 < n) : ∃ g c, v = .slice (some ⟨g, 0, none⟩) n c ∧ n ≤ c ∧ g < w.heap.size := by
  rcases h.2 with ⟨_, h0⟩ | ⟨g, cap, cur, hv, hb, hg, hc, _⟩
  · omega
  · exact ⟨g, cap, hv, hc, lt_of_block hg⟩
/-- append of one number onto a row of one's own: where the row lies. -/
theorem zappI (w : World) {ops : Array Oper} {rest : List Oper} {o : Oper} {a : Act} {Q : Exit → Act → World → Prop} (hgd : o.guard = none) (s x : Operand) (ho : o.op = .call { callee := .builtin .append, args := #[s, x], argTypes := #[29, 29] })
    (base n c b : Nat) (v : Value) (ys : List Int) (y : Int) (hs : a.eval s = v) (hown : OwnK w base 3 1 v n (iCells ys)) (hx : a.eval x = .slice (some ⟨b, 0, none⟩) 1 c) (hr : RdV w w.heap.size (some ⟨b, 0, none⟩) [.int .i64 y]) (hlen : n ≤ 100000) (hbase : base ≤ w.heap.size)
    (h : ∀ w' g cap, OwnK w' base 3 1 (.slice (some ⟨g, 0, none⟩) (n + 1) cap) (n + 1) (iCells (ys ++ [y])) → w.grownBy w' v.ownBlock → (v.ownBlock = some g ∨ g = w.heap.size) → wpList Try.prog ops Q rest (a.put o.dst (.slice (some ⟨g, 0, none⟩) (n + 1) cap)) w') : wpList Try.prog ops Q (o :: rest) a w := by
  obtain ⟨i0, hi, hz0, hz1, hz2⟩ := info_parts intInfo
  refine wpList_append_lies w hgd s x 29 ho base 3 i0 (.int .i64 0) 1 8 Try.underlying29 hi hz0 hz1 hz2 rfl (by decide) _ n (iCells ys) hs hown ⟨b, 0, none⟩ 1 c [.int .i64 y] hx rfl (srcK hr rfl) (fun u hu => by simp only [List.mem_cons, List.not_mem_nil, or_false] at hu; rcases hu with rfl; rfl) (by omega) (by unfold maxLen; omega) (by omega) hbase w.heap.size rfl ?_
  intro g' cap' w' h2 h3 h4 _
  exact h w' g' cap' (by show World.ownsRow _ _ _ _ _ _ _; simpa [iCells] using h2) h3 h4
/-- Block tb is a table of n zones: the free ones, the closed ones with their closings, how many closings there were. -/
structure ZtM (F : Nat → Prop) (w : World) (tb n : Nat) (v1 v2 : Value) (fr : List Int) (es : List (Int × Nat)) (m : Nat) : Prop where
  fb : F tb
  lt : ∀ k, F k → k < w.heap.size
  b : Blk w tb 54 [.int .i64 (n : Int), v1, .func (.func 16) #[] #[], v2, .func (.func 17) #[] #[], .int .u32 (m : Int)]
  r1 : OwnK w 0 3 1 v1 fr.length (iCells fr)
  r2 : OwnK w 0 48 2 v2 es.length (esC es)
  o1 : ∀ j, v1.ownBlock = some j → F j ∧ j ≠ tb
  o2 : ∀ j, v2.ownBlock = some j → F j ∧ j ≠ tb
  ap : ∀ j, v1.ownBlock = some j → v2.ownBlock ≠ some j
section
variable {F G : Nat → Prop} {w w' : World} {tb n m : Nat} {v1 v2 : Value} {fr fr' : List Int} {es es' : List (Int × Nat)}
theorem ZtM.keep (h : ZtM F w tb n v1 v2 fr es m) (hk : Kept G w w') (hn : ∀ k, F k → ¬ G k) : ZtM F w' tb n v1 v2 fr es m :=
  ⟨h.fb, fun k hF => Nat.lt_of_lt_of_le (h.lt k hF) hk.size, hk.blk h.b (hn _ h.fb), h.r1.zkeep hk (fun j e => hn _ (h.o1 j e).1), h.r2.zkeep hk (fun j e => hn _ (h.o2 j e).1), h.o1, h.o2, h.ap⟩
theorem ZtM.up (h : ZtM F w tb n v1 v2 fr es m) (hb : Below w.heap.size w w') : ZtM F w' tb n v1 v2 fr es m := h.keep (G := fun _ => False) (Kept.of_below hb) (fun _ _ => id)
theorem ZtM.grown (h : ZtM F w tb n v1 v2 fr es m) (hb : Below w.heap.size w w') : ZtM (grow F w w') w' tb n v1 v2 fr es m := by
  have h' := h.up hb
  exact ⟨.inl h.fb, fun k hF => hF.elim (fun h2 => Nat.lt_of_lt_of_le (h.lt k h2) hb.size) (fun h2 => h2.2), h'.b, h'.r1, h'.r2, fun j e => ⟨.inl (h.o1 j e).1, (h.o1 j e).2⟩, fun j e => ⟨.inl (h.o2 j e).1, (h.o2 j e).2⟩, h.ap⟩
theorem ZtM.cells (h : ZtM F w tb n v1 v2 fr es m) : w.cell? ⟨tb, 0, none⟩ = some (.int .i64 (n : Int)) ∧ w.cell? ⟨tb, 1, none⟩ = some v1 ∧ w.cell? ⟨tb, 2, none⟩ = some (.func (.func 16) #[] #[]) ∧ w.cell? ⟨tb, 3, none⟩ = some v2 ∧ w.cell? ⟨tb, 4, none⟩ = some (.func (.func 17) #[] #[]) ∧ w.cell? ⟨tb, 5, none⟩ = some (.int .u32 (m : Int)) :=
  ⟨h.b.cell 0 (by simp), h.b.cell 1 (by simp), h.b.cell 2 (by simp), h.b.cell 3 (by simp), h.b.cell 4 (by simp), h.b.cell 5 (by simp)⟩
/-- The free ones' row is another one, in its own block or in new ones; then the table's cell. -/
theorem ZtM.put1 {u : World} {v : Value} (h : ZtM F w tb n v1 v2 fr es m) (hk : Kept (fun j => v1.ownBlock = some j) w u) (hr : OwnK u 0 3 1 v fr'.length (iCells fr')) (ho : ∀ j, v.ownBlock = some j → v1.ownBlock = some j ∨ w.heap.size ≤ j) :
    ZtM (grow F w (u.setCell ⟨tb, 1, none⟩ v)) (u.setCell ⟨tb, 1, none⟩ v) tb n v v2 fr' es m ∧ Kept F w (u.setCell ⟨tb, 1, none⟩ v) := by
  have hbt : Blk u tb 54 _ := hk.blk h.b (fun e => (h.o1 tb e).2 rfl)
  have h2 : OwnK u 0 48 2 v2 es.length (esC es) := h.r2.zkeep hk (fun j e e2 => h.ap j e2 e)
  have hp : Kept (fun j => j = tb) u (u.setCell ⟨tb, 1, none⟩ v) := kept_put _ _ _ _
  have hK : Kept F w (u.setCell ⟨tb, 1, none⟩ v) := (hk.mono (fun j _ e => (h.o1 j e).1)).and (hp.mono (fun j _ e => e ▸ h.fb))
  have hlt := fun j (e : v.ownBlock = some j) => hr.zlt j e
  have htb := h.lt tb h.fb
  refine ⟨⟨.inl h.fb, fun k hF => hF.elim (fun h2 => Nat.lt_of_lt_of_le (h.lt k h2) hK.size) (fun h2 => h2.2), ?_, hr.zkeep hp (fun j e e2 => ?_), h2.zkeep hp (fun j e e2 => (h.o2 j e).2 e2), fun j e => ?_, fun j e => ⟨.inl (h.o2 j e).1, (h.o2 j e).2⟩, fun j e e2 => ?_⟩, hK⟩
  · have := hbt.put 1 v
    simpa using this
  · rcases ho j e with h3 | h3
    · exact (h.o1 j h3).2 e2
    · omega
  · rcases ho j e with h3 | h3
    · exact ⟨.inl (h.o1 j h3).1, (h.o1 j h3).2⟩
    · exact ⟨.inr ⟨h3, by have := hlt j e; simpa [World.setCell] using this⟩, by omega⟩
  · rcases ho j e with h3 | h3
    · exact h.ap j h3 e2
    · have := h.r2.zlt j e2
      omega
theorem ZtM.put2 {u : World} {v : Value} (h : ZtM F w tb n v1 v2 fr es m) (hk : Kept (fun j => v2.ownBlock = some j) w u) (hr : OwnK u 0 48 2 v es'.length (esC es')) (ho : ∀ j, v.ownBlock = some j → v2.ownBlock = some j ∨ w.heap.size ≤ j) :
    ZtM (grow F w (u.setCell ⟨tb, 3, none⟩ v)) (u.setCell ⟨tb, 3, none⟩ v) tb n v1 v fr es' m ∧ Kept F w (u.setCell ⟨tb, 3, none⟩ v) := by
  have hbt : Blk u tb 54 _ := hk.blk h.b (fun e => (h.o2 tb e).2 rfl)
  have h2 : OwnK u 0 3 1 v1 fr.length (iCells fr) := h.r1.zkeep hk (fun j e e2 => h.ap j e e2)
  have hp : Kept (fun j => j = tb) u (u.setCell ⟨tb, 3, none⟩ v) := kept_put _ _ _ _
  have hK : Kept F w (u.setCell ⟨tb, 3, none⟩ v) := (hk.mono (fun j _ e => (h.o2 j e).1)).and (hp.mono (fun j _ e => e ▸ h.fb))
  have hlt := fun j (e : v.ownBlock = some j) => hr.zlt j e
  have htb := h.lt tb h.fb
  refine ⟨⟨.inl h.fb, fun k hF => hF.elim (fun h2 => Nat.lt_of_lt_of_le (h.lt k h2) hK.size) (fun h2 => h2.2), ?_, h2.zkeep hp (fun j e e2 => (h.o1 j e).2 e2), hr.zkeep hp (fun j e e2 => ?_), fun j e => ⟨.inl (h.o1 j e).1, (h.o1 j e).2⟩, fun j e => ?_, fun j e e2 => ?_⟩, hK⟩
  · have := hbt.put 3 v
    simpa using this
  · rcases ho j e with h3 | h3
    · exact (h.o2 j h3).2 e2
    · omega
  · rcases ho j e with h3 | h3
    · exact ⟨.inl (h.o2 j h3).1, (h.o2 j h3).2⟩
    · exact ⟨.inr ⟨h3, by have := hlt j e; simpa [World.setCell] using this⟩, by omega⟩
  · rcases ho j e2 with h3 | h3
    · exact h.ap j e h3
    · have := h.r1.zlt j e
      omega
/-- One closing more. -/
theorem ZtM.tick (h : ZtM F w tb n v1 v2 fr es m) (m' : Nat) : ZtM F (w.setCell ⟨tb, 5, none⟩ (.int .u32 (m' : Int))) tb n v1 v2 fr es m' ∧ Kept F w (w.setCell ⟨tb, 5, none⟩ (.int .u32 (m' : Int))) := by
  have hp : Kept (fun j => j = tb) w (w.setCell ⟨tb, 5, none⟩ (.int .u32 (m' : Int))) := kept_put _ _ _ _
  refine ⟨⟨h.fb, fun k hF => Nat.lt_of_lt_of_le (h.lt k hF) hp.size, ?_, h.r1.zkeep hp (fun j e e2 => (h.o1 j e).2 e2), h.r2.zkeep hp (fun j e e2 => (h.o2 j e).2 e2), h.o1, h.o2, h.ap⟩, hp.mono (fun j _ e => e ▸ h.fb)⟩
  have := h.b.put 5 (.int .u32 (m' : Int))
  simpa using this
end
/-- A table that was changed: what the call answers, the table behind it, and what is kept. -/
def ZtTo (F : Nat → Prop) (tb n : Nat) (v : Value) (fr : List Int) (es : List (Int × Nat)) (m : Nat) (w : World) (r : Ending) (w' : World) : Prop := r = .returned v ∧ (∃ v1 v2, ZtM (grow F w w') w' tb n v1 v2 fr es m) ∧ Kept F w w'
/-- Where a zone stands. -/
def ZoAt (zs : List Int) (z : Int) (w : World) (r : Ending) (w' : World) : Prop := (∃ i, r = .returned (.int .i64 i) ∧ AtL zs z i) ∧ Below w.heap.size w w'
end Go.Proofs.Yteoohafadijkmaa
