/-
  Package ckpt's functions, each as one contract.
-/
import Derived.Test.YtknllfhokjedkaaDoorCkX
namespace Go.Proofs.YtknllfhokjedkaaDoor
open Go.RowKit

theorem kright_is (nu se sq z p b : Int) (A : Option Addr) (n c : Nat) (w : World) (_hz : Wide z) (_hp : Wide p) (_hb : Wide b) : Calls Tryd.prog 19 #[kV nu se sq z p b (.slice A n c)] w (BoolB (rightC z p b n) w) := krightq_is nu se sq z p b A n c w
theorem ksame_is {A A2 : Option Addr} {dir dir2 : List Int} {n m c c2 : Nat} {w : World} (nu se sq z p b nu2 se2 sq2 z2 p2 b2 : Int) (hr : RdV w w.heap.size A (u32s dir)) (hr2 : RdV w w.heap.size A2 (u32s dir2)) (hl : dir.length = n) (hl2 : dir2.length = m) (hn : n ≤ 1000) (_hm : m ≤ 1000) :
    Calls Tryd.prog 21 #[kV nu se sq z p b (.slice A n c), kV nu2 se2 sq2 z2 p2 b2 (.slice A2 m c2)] w (BoolB (sameC nu se sq z p b dir nu2 se2 sq2 z2 p2 b2 dir2) w) :=
  ksameq_is nu se sq z p b nu2 se2 sq2 z2 p2 b2 hr hr2 hl hl2 (by omega)

/-- Rows of sixteen bytes, each in a block of its own. -/
structure Rows16 (w : World) (base g cap : Nat) (ys : List Nat) (l : List (List Int)) : Prop where
  own : OwnG w base 55 g cap (ys.map rowV)
  len : ys.length = l.length
  row : ∀ i (h1 : i < ys.length) (h2 : i < l.length), Blk8 w ys[i] l[i] ∧ base ≤ ys[i]
  rise : ys.Pairwise (· < ·)
  six : ∀ x ∈ l, x.length = 16
theorem Rows16.up {w u : World} {base g cap : Nat} {ys : List Nat} {l : List (List Int)} (h : Rows16 w base g cap ys l) (hb : Below w.heap.size w u) : Rows16 u base g cap ys l :=
  ⟨h.own.rise hb, h.len, fun i h1 h2 => ⟨Blk.up (h.row i h1 h2).1 hb (lt_of_block (h.row i h1 h2).1), (h.row i h1 h2).2⟩, h.rise, h.six⟩
theorem Rows16.at {w : World} {base g cap K : Nat} {ys : List Nat} {l : List (List Int)} (h : Rows16 w base g cap ys l) (hK : l.length = K) : RowsAt w (.slice (some ⟨g, 0, none⟩) K cap) l := by
  subst hK
  have hc := h.own.cap
  rw [List.length_map, h.len] at hc
  refine ⟨some ⟨g, 0, none⟩, cap, ys.map rowV, rfl, hc, h.own.rdV, by rw [List.length_map, h.len], fun i h1 h2 => ?_⟩
  rw [List.length_map] at h1
  have h16 := h.six _ (List.getElem_mem h2)
  refine ⟨some ⟨ys[i], 0, none⟩, 16, by rw [List.getElem_map, h16]; rfl, by omega, ?_⟩
  have := (h.row i h1 h2).1.rd 0
  rwa [List.drop_zero] at this
theorem Rows16.apart {w : World} {base g cap : Nat} {ys : List Nat} {l : List (List Int)} (h : Rows16 w base g cap ys l) {i : Nat} (h1 : i < ys.length) : ys[i] ≠ g := by
  have hb := (h.row i h1 (by rw [← h.len]; exact h1)).1
  rcases h.own.2 with ⟨h', _⟩ | ⟨g', cap', cur, hv, _, hg, _⟩
  · simp at h'
  · injection hv with hv
    have hv := Option.some.inj hv
    injection hv with hv
    subst hv
    intro e
    rw [e] at hb
    have := hb.symm.trans hg
    have := Option.some.inj this
    injection this with _ e2
    exact absurd e2 (by decide)
theorem rise_ne {ys : List Nat} (h : ys.Pairwise (· < ·)) {i k : Nat} (hi : i < ys.length) (hk : k < ys.length) (hne : i ≠ k) : ys[i] ≠ ys[k] := by
  rw [List.pairwise_iff_getElem] at h
  rcases Nat.lt_or_gt_of_ne hne with hlt | hlt
  · exact Nat.ne_of_lt (h i k hi hk hlt)
  · exact Nat.ne_of_gt (h k i hk hi hlt)
theorem Rows16.set {w : World} {base g cap : Nat} {ys : List Nat} {l : List (List Int)} (h : Rows16 w base g cap ys l) {k t : Nat} (hk : k < ys.length) (hk2 : k < l.length) (x : Int) : Rows16 (w.setCell ⟨ys[k], t, none⟩ (.int .u8 x)) base g cap ys (l.set k (l[k].set t x)) := by
  have hg : w.grownBy (w.setCell ⟨ys[k], t, none⟩ (.int .u8 x)) (some ys[k]) := grown_put (World.grownBy.refl w _) t _
  refine ⟨h.own.kept hg (fun e => h.apart hk (Option.some.inj e).symm), by rw [List.length_set]; exact h.len, fun i h1 h2 => ⟨?_, (h.row i h1 (by rw [← h.len]; exact h1)).2⟩, h.rise, fun y hy => ?_⟩
  · rw [List.length_set] at h2
    by_cases e : k = i
    · subst e
      rw [List.getElem_set_self]
      exact (h.row k h1 h2).1.put t x
    · rw [List.getElem_set_ne e]
      exact Blk.kept (h.row i h1 h2).1 hg (fun e2 => rise_ne h.rise h1 hk (Ne.symm e) (Option.some.inj e2))
  · rcases List.mem_or_eq_of_mem_set hy with hy | rfl
    · exact h.six y hy
    · rw [List.length_set]
      exact h.six _ (List.getElem_mem hk2)
theorem kblocks_ok {A : Option Addr} {dir : List Int} {n c : Nat} {w : World} (nu se sq z p b : Int) (hr : RdV w w.heap.size A (u32s dir)) (hl : dir.length = n) (hw : Words (nu :: se :: sq :: dir)) (h : rightC z p b n = true) :
    Calls Tryd.prog 9 #[kV nu se sq z p b (.slice A n c)] w (fun r w' => ∃ (g cap : Nat) (ys : List Nat), r = .returned (.tuple #[.slice (some ⟨g, 0, none⟩) (blocksC nu se sq z p b dir).length cap, .nilIface]) ∧ Rows16 w' w.heap.size g cap ys (blocksC nu se sq z p b dir) ∧ Below w.heap.size w w') := by
  refine (kblocks_rows nu se sq z p b hr hl hw h).mono ?_
  rintro r w' ⟨g, cap, K, ys, rfl, h1, h2, h3, h4, h5, h6⟩
  subst h3
  exact ⟨g, cap, ys, rfl, ⟨h2, h1, h4, h5, blocksC_16⟩, h6⟩
theorem kblocks_all {A : Option Addr} {dir : List Int} {n c : Nat} {w : World} (nu se sq z p b : Int) (hr : RdV w w.heap.size A (u32s dir)) (hl : dir.length = n) (hw : Words (nu :: se :: sq :: dir)) (_hz : Wide z) (_hp : Wide p) (_hb : Wide b) :
    Calls Tryd.prog 9 #[kV nu se sq z p b (.slice A n c)] w (BlocksIs (errV (if rightC z p b n = true then 0 else 1)) (if rightC z p b n = true then blocksC nu se sq z p b dir else []) w) := by
  by_cases h : rightC z p b n = true
  · rw [if_pos h, if_pos h]
    refine (kblocks_ok nu se sq z p b hr hl hw h).mono ?_
    rintro r w' ⟨g, cap, ys, rfl, hrw, hb⟩
    exact ⟨_, rfl, hrw.at rfl, hb⟩
  · rw [if_neg h, if_neg h]
    exact kblocks_no nu se sq z p b A n c w (by simpa using h)
theorem kread_all {v : Value} {l : List (List Int)} {w : World} (h : RowsAt w v l) (hx : ∀ x ∈ l, Byt x) (hn : l.length ≤ 10000) (_hb : ∀ x ∈ l, x.length ≤ 20000) : Calls Tryd.prog 12 #[v] w (ReadIs (errV (readGE l)) l w) := by
  obtain ⟨A, c, vs, rfl, hc, hv, hr⟩ := h
  exact kread_x rfl hc hv hr hx hn
end Go.Proofs.YtknllfhokjedkaaDoor
