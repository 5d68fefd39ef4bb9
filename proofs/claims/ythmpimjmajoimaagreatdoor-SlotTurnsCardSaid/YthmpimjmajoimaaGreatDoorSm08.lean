/-
  The document's device: Load: mathematics; a zone while its pages are laid.
-/
import Derived.Test.YthmpimjmajoimaaGreatDoorSm07
namespace Go.Proofs.YthmpimjmajoimaaGreatDoor
open Go.RowKit

/-- A page that may be loaded; a zone of them. -/
def pageOk (b : List Int) : Bool := decide (b.length = 0) || decide (b.length = 33)
def zoneOk (p : Nat) (z : List (List Int)) : Bool := decide (z.length ≤ p) && z.all pageOk
def loadZ (z : List (List Int)) : ZoneS := ⟨z, z.length, false⟩
/-- The first i zones are loaded. -/
def loadTo (n p : Nat) (l : List (List (List Int))) (i : Nat) : DevS := ⟨(List.range n).map (fun j => if j < i then loadZ (l.getD j []) else ZoneS.empty), p, -1, 0, false⟩
def loadD (p : Int) (l : List (List (List Int))) : Option DevS := if (1 ≤ l.length ∧ l.length ≤ 24 ∧ 1 ≤ p ∧ p ≤ 16) ∧ l.all (zoneOk p.toNat) = true then some (loadTo l.length p.toNat l l.length) else none
theorem loadTo_zero (n p : Nat) (l : List (List (List Int))) : loadTo n p l 0 = DevS.new n p := by
  have h : (List.range n).map (fun j => if j < 0 then loadZ (l.getD j []) else ZoneS.empty) = List.replicate n ZoneS.empty := by
    refine List.ext_getElem (by simp) fun j h1 h2 => by simp
  unfold loadTo DevS.new
  rw [h]
theorem loadTo_len (n p : Nat) (l : List (List (List Int))) (i : Nat) : (loadTo n p l i).zones.length = n := by simp [loadTo]
theorem loadTo_is {n p : Nat} {l : List (List (List Int))} {i j : Nat} (h : j < n) : (loadTo n p l i).is (j : Int) = true := DevS.is_iff.2 ⟨by omega, by rw [loadTo_len]; omega⟩
theorem loadTo_get {n p : Nat} {l : List (List (List Int))} {i : Nat} (h : i < n) : (loadTo n p l i).zone (i : Int) = ZoneS.empty := by
  rw [DevS.zone_out (loadTo_is h)]
  simp [loadTo]
theorem loadTo_put {n p : Nat} {l : List (List (List Int))} {i : Nat} : (loadTo n p l i).put (i : Int) (loadZ (l.getD i [])) = loadTo n p l (i + 1) := by
  have e : ((List.range n).map (fun j => if j < i then loadZ (l.getD j []) else ZoneS.empty)).set i (loadZ (l.getD i [])) = (List.range n).map (fun j => if j < i + 1 then loadZ (l.getD j []) else ZoneS.empty) := by
    refine List.ext_getElem (by simp) fun j h1 h2 => ?_
    by_cases hj : i = j
    · subst hj
      simp
    · rw [List.getElem_set_ne hj]
      simp only [List.getElem_map, List.getElem_range]
      by_cases h3 : j < i
      · rw [if_pos h3, if_pos (by omega)]
      · rw [if_neg h3, if_neg (by omega)]
  unfold loadTo DevS.put
  simp only [Int.toNat_natCast]
  rw [e]
theorem page_ok {b : List Int} (h : pageOk b = true) : b.length = 0 ∨ b.length = 33 := by simpa [pageOk] using h
theorem zone_ok {p : Nat} {z : List (List Int)} (h : zoneOk p z = true) : z.length ≤ p ∧ ∀ b ∈ z, b.length = 0 ∨ b.length = 33 := by
  simp only [zoneOk, Bool.and_eq_true, decide_eq_true_eq, List.all_eq_true] at h
  exact ⟨h.1, fun b hb => page_ok (h.2 b hb)⟩
theorem loadTo_wf {n p : Nat} {l : List (List (List Int))} {i : Nat} (hn : 1 ≤ n ∧ n ≤ 24) (hp : 1 ≤ p ∧ p ≤ 16) (hl : l.length = n) (_hi : i ≤ n) (hok : ∀ j (h : j < l.length), j < i → zoneOk p l[j] = true) (hby : ∀ z ∈ l, ∀ b ∈ z, Byt b) : (loadTo n p l i).WF := by
  refine ⟨by rw [loadTo_len]; exact hn.1, by rw [loadTo_len]; exact hn.2, hp.1, hp.2, by simp [loadTo], by simp [loadTo], fun z hz => ?_⟩
  simp only [loadTo, List.mem_map, List.mem_range] at hz
  obtain ⟨j, hj, rfl⟩ := hz
  split
  · rename_i h
    have hjl : j < l.length := by omega
    have hz := zone_ok (hok j hjl h)
    have e : l.getD j [] = l[j] := by rw [List.getD_eq_getElem?_getD, List.getElem?_eq_getElem hjl]; rfl
    rw [e]
    exact ⟨hz.1, Nat.le_refl _, fun b hb => ⟨hz.2 b hb, hby _ (List.getElem_mem _) b hb⟩⟩
  · exact ⟨Nat.zero_le _, Nat.le_refl _, fun b hb => by cases hb⟩

theorem RowV.keep {G : Nat → Prop} {w w' : World} {base : Nat} {T : TypeId} {v : Value} {vs : List Value} (h : RowV w base T v vs) (hk : Kept G w w') (hn : ∀ g, v.ownBlock = some g → ¬ G g) : RowV w' base T v vs :=
  ⟨h.1, h.2.imp id fun ⟨g', c', cur, hv, hb, hc, r⟩ => ⟨g', c', cur, hv, hb, (hk.block g' (lt_of_block hc) (hn g' (by rw [hv]; rfl))).trans hc, r⟩⟩
/-- A zone while its pages are laid: behind the world u all is as it was but the zones' block; its pages' row is the call's own, and so is each page. -/
structure LZ (u wk : World) (zb i : Nat) (zs : List Value) (v : Value) (vs : List Value) (bs : List (List Int)) : Prop where
  kept : Kept (fun k => k = zb) u wk
  blk : Blk wk zb 84 (zs.set (i * 3) v)
  row : RowV wk u.heap.size 61 v vs
  len : vs.length = bs.length
  each : ∀ j (h : j < vs.length) (h2 : j < bs.length), RowV wk u.heap.size 5 vs[j] (cellsOf8 bs[j])
theorem LZ.start {u : World} {zb i : Nat} {zs : List Value} (hb : Blk u zb 84 zs) (h : zs[i * 3]? = some (.slice none 0 0)) : LZ u u zb i zs (.slice none 0 0) [] [] := by
  refine ⟨Kept.refl _ _, ?_, ⟨rfl, .inl ⟨rfl, rfl⟩⟩, rfl, fun j h => by simp at h⟩
  obtain ⟨hk, he⟩ := List.getElem?_eq_some_iff.1 h
  rw [← he, List.set_getElem_self hk]
  exact hb
theorem LZ.rows {F : Nat → Prop} {u wk : World} {db zb i : Nat} {zs : List Value} {v : Value} {vs : List Value} {bs : List (List Int)} (h : LZ u wk zb i zs v vs bs) (hd : db < u.heap.size) (hz : zb < u.heap.size) : RowsF (fun k => grow F u wk k ∧ k ≠ db ∧ k ≠ zb) wk v bs := by
  obtain ⟨A, c, e, hc, hr, h0, hb⟩ := h.row.out
  refine ⟨A, c, vs, by rw [e, h.len], by rw [← h.len]; exact hc, hr, fun _ b o x ex => ?_, h0, h.len, fun j h1 h2 => ?_⟩
  · have := hb b o x ex
    exact ⟨.inr this, by omega, by omega⟩
  · obtain ⟨A, c, e, hc, hr, h0, hb⟩ := (h.each j h1 h2).out
    rw [cells8_len] at e hc
    exact ⟨A, c, e, hc, hr.rd, fun _ b o x ex => (by have := hb b o x ex; exact ⟨.inr this, by omega, by omega⟩), h0⟩
/-- One page more. -/
theorem LZ.step {u wk w4 : World} {zb i : Nat} {zs : List Value} {v v3 v4 : Value} {vs : List Value} {bs : List (List Int)} {x : List Int} (h : LZ u wk zb i zs v vs bs) (hz : zb < u.heap.size) (hk : Kept (fun k => v.ownBlock = some k) wk w4) (h3 : RowV w4 u.heap.size 5 v3 (cellsOf8 x)) (h4 : RowV w4 u.heap.size 61 v4 (vs ++ [v3])) :
    LZ u (w4.setCell ⟨zb, i * 3, none⟩ v4) zb i zs v4 (vs ++ [v3]) (bs ++ [x]) := by
  have hkz := kept_put w4 zb (i * 3) v4
  have hv : ∀ k, v.ownBlock = some k → u.heap.size ≤ k := fun k e => (h.row.own k e).1
  have hfar : ∀ {T : TypeId} {y : Value} {ys : List Value}, RowV w4 u.heap.size T y ys → RowV (w4.setCell ⟨zb, i * 3, none⟩ v4) u.heap.size T y ys := fun hy => hy.keep hkz (fun g e e2 => by have := (hy.own g e).1; omega)
  refine ⟨⟨?_, ?_, ?_, ?_, ?_⟩, ?_, hfar h4, by simp [h.len], fun j h1 h2 => ?_⟩
  · exact hkz.os.trans (hk.os.trans h.kept.os)
  · exact hkz.tape.trans (hk.tape.trans h.kept.tape)
  · exact hkz.output.trans (hk.output.trans h.kept.output)
  · exact Nat.le_trans h.kept.size (Nat.le_trans hk.size hkz.size)
  · intro k hlt hne
    have hs := h.kept.size
    have hs2 := hk.size
    rw [hkz.block k (by omega) hne, hk.block k (by omega) (fun e => by have := hv k e; omega)]
    exact h.kept.block k hlt hne
  · have := (hk.blk h.blk (fun e => by have := hv _ e; omega)).put (i * 3) v4
    rwa [List.set_set] at this
  · by_cases hj : j < vs.length
    · have hj2 : j < bs.length := by rw [← h.len]; exact hj
      rw [List.getElem_append_left hj, List.getElem_append_left hj2]
      have hr := h.each j hj hj2
      exact hfar (hr.keep hk (fun g e e2 => RowV.apart hr h.row (by decide) g e e2.symm))
    · have hl := h.len
      have e : j = vs.length := by simp at h1; omega
      subst e
      rw [List.getElem_append_right (by omega), List.getElem_append_right (by omega)]
      simp only [Nat.sub_self, List.getElem_cons_zero, h.len]
      exact hfar h3
/-- The zone's pages are all there; how many are sure is told. -/
theorem LZ.done {F : Nat → Prop} {u wk : World} {db zb cap i m : Nat} {zs : List Value} {v : Value} {vs : List Value} {bs : List (List Int)} {S : DevS} (h : LZ u wk zb i zs v vs bs) (H : RD F u db zb cap zs S) (hi : i < S.zones.length) (hf : (S.zone (i : Int)).fin = false) (hm : bs.length = m) (hwf : (S.put (i : Int) (loadZ bs)).WF) :
    (∃ zs', RD (grow F u (wk.setCell ⟨zb, i * 3 + 1, none⟩ (.int .i64 (m : Int)))) (wk.setCell ⟨zb, i * 3 + 1, none⟩ (.int .i64 (m : Int))) db zb cap zs' (S.put (i : Int) (loadZ bs)) ∧ ∀ k, i < k → zs'[k * 3]? = zs[k * 3]?) ∧ Kept F u (wk.setCell ⟨zb, i * 3 + 1, none⟩ (.int .i64 (m : Int))) := by
  subst hm
  have hdb := lt_of_block H.dev
  have hzb := lt_of_block H.blk
  have hzr := zrow_len H.room H.len hi
  have hkz := kept_put wk zb (i * 3 + 1) (.int .i64 (bs.length : Int))
  have hk := h.kept.and hkz
  have hn := H.nth i (DevS.is_iff.2 ⟨by omega, by omega⟩)
  rw [hf] at hn
  have hB := h.blk.put (i * 3 + 1) (.int .i64 (bs.length : Int))
  have hrow := (h.rows (F := F) hdb hzb).keep hkz (fun k hk e => hk.2.2 e)
  have hsz := hkz.size
  have hsz2 := h.kept.size
  refine ⟨⟨_, ⟨?_, hB, ?_, by simp only [DevS.put, List.length_set]; exact H.room, by simp only [List.length_set]; exact H.len, .inl H.fd, .inl H.fz, H.ne, fun k hk => ?_, hwf⟩, fun k hk => ?_⟩, hk.mono (fun k _ e => e ▸ H.fz)⟩
  · have := hk.blk H.dev H.ne
    simpa only [DevS.put, List.length_set] using this
  · intro j hj
    simp only [DevS.put, List.length_set, Int.toNat_natCast] at hj ⊢
    by_cases e : i = j
    · subst e
      rw [List.getElem_set_self]
      refine ⟨v, ?_, ?_, ?_, hrow.mono (fun k hk => ⟨hk.1.imp id (fun x => ⟨x.1, Nat.lt_of_lt_of_le x.2 hsz⟩), hk.2⟩)⟩
      · rw [List.getElem?_set_ne (by omega), List.getElem?_set_self (by omega)]
      · rw [List.getElem?_set_self (by rw [List.length_set]; omega)]
        rfl
      · rw [List.getElem?_set_ne (by omega), List.getElem?_set_ne (by omega)]
        exact hn.2
    · rw [List.getElem_set_ne e]
      obtain ⟨v', a, b, c, d⟩ := H.row j hj
      refine ⟨v', ?_, ?_, ?_, (d.keep hk (fun k hk e => hk.2.2 e)).mono (fun k hk => ⟨.inl hk.1, hk.2⟩)⟩
      · rw [List.getElem?_set_ne (by omega), List.getElem?_set_ne (by omega)]
        exact a
      · rw [List.getElem?_set_ne (by omega), List.getElem?_set_ne (by omega)]
        exact b
      · rw [List.getElem?_set_ne (by omega), List.getElem?_set_ne (by omega)]
        exact c
  · rcases hk with hk | hk
    · have := H.lt k hk
      omega
    · exact hk.2
  · rw [List.getElem?_set_ne (by omega), List.getElem?_set_ne (by omega)]

/-- Rows of rows of rows of bytes. -/
def Rows3 (w : World) (v : Value) (l : List (List (List Int))) : Prop :=
  ∃ A c vs, v = .slice A l.length c ∧ l.length ≤ c ∧ RdV w w.heap.size A vs ∧ (A = none → c = 0) ∧ vs.length = l.length ∧ ∀ i (h : i < vs.length) (h2 : i < l.length), RowsF (fun k => k < w.heap.size) w vs[i] l[i]
end Go.Proofs.YthmpimjmajoimaaGreatDoor
