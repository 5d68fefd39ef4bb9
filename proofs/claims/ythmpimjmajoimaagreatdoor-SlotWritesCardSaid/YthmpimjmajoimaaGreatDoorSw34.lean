/-
  The document's slots: Where, Read, Newest.
  A range over a function whose iterator says which element comes when, and at its end what lies in the world; an iterator may itself range over another one. Regions that draw their order, within a round. For whatever program.
  The landed slots' gather: the blocks of a zone's pages, if each page is at its place; its parts in memory.
-/
import Derived.Test.YthmpimjmajoimaaGreatDoorSw33
import Derived.Test.YthmpimjmajoimaaGreatDoorSw30
import Derived.Test.YthmpimjmajoimaaGreatDoorSw19
import Derived.Test.YthmpimjmajoimaaGreatDoorSw05
import Derived.OrdersIn
import Derived.OwnWalkIn
import Derived.RangeFuncCalls
import Derived.Test.YthmpimjmajoimaaGreatDoorSw31
import Derived.Maps.AppendAt
namespace Go.Proofs.YthmpimjmajoimaaGreatDoor
open Go.RowKit

section
variable {F : Nat → Prop} {w : World} {db zb cap : Nat} {zs : List Value} {S : DevS}
set_option maxHeartbeats 1000000 in
theorem rswhere_at (nu : Int) (h : RD F w db zb cap zs S) (h2 : 2 ≤ S.zones.length) (n0 : 0 ≤ nu) (_n1 : nu ≤ 4294967295) : Calls Tryz.prog 24 #[.pointer (some ⟨db, 0, none⟩), .int .u32 nu] w (IntIs (whereN S.zones.length nu) w) := by
  have c0 := h.c0
  have hwf := h.wf.z1
  obtain ⟨n, hn⟩ : ∃ n, S.zones.length = n := ⟨_, rfl⟩
  rw [hn] at c0 hwf h2 ⊢
  have hm : nu.tmod 2 = nu % 2 := Int.tmod_eq_emod_of_nonneg n0
  have hw1 : IntKind.i64.wrap ((n : Int) - 2) = (n : Int) - 2 := IntWalk.i64_in _ (by omega)
  have hw2 : IntKind.i64.wrap ((n : Int) - 1) = (n : Int) - 1 := IntWalk.i64_in _ (by omega)
  clear h hn
  by_cases e : nu % 2 = 0
  · have q : ((nu % 2) == 0) = true := by simpa using e
    have HE : Hid ((n : Int) - 2 = whereN n nu) := Lib.hid (by unfold whereN; omega)
    go_enter Tryz.func24, Tryz.ntmps24
    go_wp2_with fail
    go_ret
    exact ⟨ret_int HE.out, rfl⟩
  · have q : ((nu % 2) == 0) = false := by simpa using e
    have HE : Hid ((n : Int) - 1 = whereN n nu) := Lib.hid (by unfold whereN; omega)
    go_enter Tryz.func24, Tryz.ntmps24
    go_wp2_with fail
    go_ret
    exact ⟨ret_int HE.out, rfl⟩
end
/-- A checkpoint that the document tells. -/
def RChkTold (c : ChkS) (e : Int) (w : World) (r : Ending) (w' : World) : Prop := ∃ sv, r = .returned (.tuple #[ckV c sv, .int .i64 e]) ∧ NumsAt w' sv c.dir ∧ Below w.heap.size w w'
/-- What is read of a page, as the document says. -/
theorem rpage_at {A : Option Addr} {ps : List Int} {n c : Nat} {w : World} (hr : Rd w w.heap.size A ps) (hx : Byt ps) (hl : ps.length = n) (hc : n ≤ c) : Calls Tryz.prog 54 #[.slice A n c] w (fun r w' => (pgE ps = 0 ∧ RReadOk ps w r w') ∨ (pgE ps ≠ 0 ∧ RReadNo (pgE ps) w r w')) := by
  by_cases hn : n = 33
  · subst hn
    obtain ⟨b, o, rfl, _, _⟩ := hr (by omega)
    by_cases hs : bk ps 13 = tot ps
    · by_cases hk : rightK (ps.getD 0 0) = true
      · have e : pgE ps = 0 := by unfold pgE; rw [if_neg (by omega), if_neg (by simpa using hs), if_neg (by unfold rightK at hk; rw [hk]; decide)]
        exact (rread_ok b o c ps w hr hx hl hc hs hk).mono fun r w' h => .inl ⟨e, h⟩
      · have hk' : rightK (ps.getD 0 0) = false := by simpa using hk
        have e : pgE ps = 2 := by unfold pgE; rw [if_neg (by omega), if_neg (by simpa using hs), if_pos (by unfold rightK at hk'; exact hk')]
        exact (rread_form b o c ps w hr hx hl hc hs hk').mono fun r w' h => .inr ⟨by omega, by rw [e]; exact h⟩
    · have e : pgE ps = 4 := by unfold pgE; rw [if_neg (by omega), if_pos (by simpa using hs)]
      exact (rread_sum b o c ps w hr hx hl hc hs).mono fun r w' h => .inr ⟨by omega, by rw [e]; exact h⟩
  · have e : pgE ps = 3 := by unfold pgE; rw [if_pos (by omega)]
    exact (rread_short A n c w hn).mono fun r w' h => .inr ⟨by omega, by rw [e]; exact h⟩
/-- The result's block and none's block are all 0. -/
structure Zer (w u : World) : Prop where
  old : Below w.heap.size w u
  r : Blk u w.heap.size 46 zList
  z : Blk u (w.heap.size + 1) 46 zList
theorem Zer.up {w u v : World} (h : Zer w u) (hb : Below u.heap.size u v) : Zer w v := ⟨wbelow h.old hb, h.r.up hb (lt_of_block h.r), h.z.up hb (lt_of_block h.z)⟩
theorem Zer.no {w u : World} (h : Zer w u) (e : Int) (a b c d f g k : Value) : RChkTold ChkS.zero e w (.returned (.tuple #[ckV ChkS.zero (.slice none 0 0), .int .i64 e])) (((((((u.setCell ⟨w.heap.size, 0, none⟩ a).setCell ⟨w.heap.size, 1, none⟩ b).setCell ⟨w.heap.size, 2, none⟩ c).setCell ⟨w.heap.size, 3, none⟩ d).setCell ⟨w.heap.size, 4, none⟩ f).setCell ⟨w.heap.size, 5, none⟩ g).setCell ⟨w.heap.size, 6, none⟩ k) :=
  ⟨_, rfl, NumsAt.nil _, below_seven h.old (Nat.le_refl _) _ _ _ _ _ _ _⟩
theorem okP_no {l : List (List Int)} {k : Nat} (hk : k < l.length) (h : pgB (l.getD 0 []) k l[k] = false) : pagesOk l = false := by
  unfold pagesOk
  rw [List.all_eq_false]
  refine ⟨k, List.mem_range.2 hk, ?_⟩
  rw [List.getD_eq_getElem?_getD (i := k), List.getElem?_eq_getElem hk, Option.getD_some, h]
  decide
theorem okP_yes {l : List (List Int)} (h : ∀ j (hj : j < l.length), pgB (l.getD 0 []) j l[j] = true) : pagesOk l = true := by
  unfold pagesOk
  rw [List.all_eq_true]
  intro j hj
  have hj := List.mem_range.1 hj
  rw [List.getD_eq_getElem?_getD (i := j), List.getElem?_eq_getElem hj, Option.getD_some]
  exact h j hj
theorem hold_bad {n P : Nat} {zi : Int} {l : List (List Int)} (h : pagesOk l = false) : holdB n P zi l = false := by
  unfold holdB
  rw [h]
  rfl
/-- What was read of the first i pages. -/
structure RAcc (w0 w : World) (l : List (List Int)) (i : Nat) (v : Value) (vs : List Value) : Prop where
  old : Below w0.heap.size w0 w
  row : RowV w w0.heap.size 61 v vs
  len : vs.length = i
  el : ∀ j (h : j < vs.length) (hl : j < l.length), ∃ g cap, vs[j] = .slice (some ⟨g, 0, none⟩) 16 cap ∧ Own8 w w0.heap.size g cap (l[j].drop 17)
  ok : ∀ j (hj : j < l.length), j < i → pgB (l.getD 0 []) j l[j] = true
theorem RAcc.rise {w0 w w' : World} {l : List (List Int)} {i : Nat} {v : Value} {vs : List Value} (h : RAcc w0 w l i v vs) (hb : Below w.heap.size w w') : RAcc w0 w' l i v vs :=
  ⟨wbelow h.old hb, h.row.rise hb, h.len, fun j h1 h2 => by obtain ⟨g, cap, e, ho⟩ := h.el j h1 h2; exact ⟨g, cap, e, ho.rise hb⟩, h.ok⟩
theorem own8_row {w : World} {base g cap : Nat} {xs : List Int} (h : Own8 w base g cap xs) : RowV w base 5 (.slice (some ⟨g, 0, none⟩) xs.length cap) (cellsOf8 xs) := by
  unfold RowV
  rw [show (cellsOf8 xs).length = xs.length by simp [cellsOf8]]
  exact h
theorem RAcc.step {w0 w w4 : World} {l : List (List Int)} {i g cap : Nat} {v v4 : Value} {vs : List Value} (h : RAcc w0 w l i v vs) (hi : i < l.length) (hg : w.grownBy w4 v.ownBlock) (hr : RowV w4 w0.heap.size 61 v4 (vs ++ [.slice (some ⟨g, 0, none⟩) 16 cap])) (ho : Own8 w w0.heap.size g cap (l[i].drop 17)) (hok : pgB (l.getD 0 []) i l[i] = true) :
    RAcc w0 w4 l (i + 1) v4 (vs ++ [.slice (some ⟨g, 0, none⟩) 16 cap]) := by
  have hk : Kept (fun _ => False) w0 w4 := (Kept.of_below h.old).grown hg (fun k e => .inr (h.row.own k e).1)
  have far : ∀ {g cap : Nat} {xs : List Int}, Own8 w w0.heap.size g cap xs → Own8 w4 w0.heap.size g cap xs := fun {g cap xs} ho => ho.kept hg ((own8_row ho).apart h.row (by decide) g rfl)
  refine ⟨hk.below (Nat.le_refl _) (fun _ e => e.elim), hr, by simp [h.len], fun j h1 h2 => ?_, fun j hj hlt => ?_⟩
  · by_cases hji : j < vs.length
    · obtain ⟨g', cap', e, ho'⟩ := h.el j hji h2
      exact ⟨g', cap', by rw [List.getElem_append_left hji]; exact e, far ho'⟩
    · have hlen := h.len
      have : j = i := by rw [List.length_append] at h1; simp at h1; omega
      subst this
      refine ⟨g, cap, ?_, far ho⟩
      rw [List.getElem_append_right (by omega)]
      simp
  · by_cases e : j = i
    · subst e
      exact hok
    · exact h.ok j hj (by omega)
theorem pgB_len {f ps : List Int} {i : Nat} (h : pgB f i ps = true) : ps.length = 33 := by
  unfold pgB at h
  simp only [Bool.and_eq_true, decide_eq_true_eq] at h
  have h := h.1
  unfold pgE at h
  split at h
  · omega
  · omega
theorem pgB_iff {f ps : List Int} {i : Nat} : pgB f i ps = true ↔ (pgE ps = 0 ∧ ps.getD 0 0 = 5 ∧ bk ps 5 = (i : Int) ∧ bk ps 1 = bk f 1 ∧ bk ps 9 = bk f 9) := by
  unfold pgB
  simp only [Bool.and_eq_true, decide_eq_true_eq]
theorem slot_ten {S : DevS} {zi : Int} (hg : S.gone = false) (hs : S.slotB zi = true) (hb : holdB S.zones.length S.P zi (S.zone zi).pages = false) : S.slC zi = ChkS.zero ∧ S.slE zi = 10 := by
  have h1 : S.slE zi = 10 := by
    unfold DevS.slE
    rw [if_neg (by rw [hg]; decide), if_neg (by rw [hs]; decide), if_neg (by rw [hb]; decide)]
  exact ⟨by unfold DevS.slC; rw [h1]; rfl, h1⟩
theorem RAcc.fin {w0 w : World} {l : List (List Int)} {v : Value} {vs : List Value} (h : RAcc w0 w l l.length v vs) : pagesOk l = true ∧ RdR w vs (blk17 l) := by
  refine ⟨okP_yes (fun j hj => h.ok j hj hj), by rw [h.len]; simp [blk17], fun j h1 h2 => ?_⟩
  have hj : j < l.length := by rw [← h.len]; exact h1
  obtain ⟨g, cap, e, ho⟩ := h.el j h1 hj
  have hb : (blk17 l)[j] = l[j].drop 17 := by simp [blk17]
  have h16 : (l[j].drop 17).length = 16 := by rw [List.length_drop, pgB_len (h.ok j hj hj)]
  refine ⟨some ⟨g, 0, none⟩, cap, by rw [hb, h16]; exact e, by rw [hb]; exact ho.cap, by rw [hb]; exact ho.rd⟩
end Go.Proofs.YthmpimjmajoimaaGreatDoor
namespace Go.Proofs.YthmpimjmajoimaaGreatDoor
open Go.RowKit

variable {F : Fence} {n : Nat} {P : Program}
theorem OwnFrom.step {β : Type} {B : Nat} {J : β → World → Prop} (h : OwnFrom B J) {s : β} {A C : World} (hj : J s A) (hb : Below A.heap.size A C) : J s C :=
  h s A C none hj ⟨hb.os, hb.tape, hb.output, hb.size, fun k hk _ => hb.block k hk⟩ (fun r e => by cases e)
theorem OwnFrom.mono {β : Type} {B B' : Nat} {J : β → World → Prop} (h : OwnFrom B J) (hB : B ≤ B') : OwnFrom B' J := fun s W W' row hs hg hr => h s W W' row hs hg (fun r e => ⟨Nat.le_trans hB (hr r e).1, (hr r e).2⟩)

/-- A yield of another loop, within a round. -/
theorem YieldAt.inRound {l m l' m' : Nat} {args : Array Value} {W : World} {R : Ending → World → Prop} (h : YieldAt Fence.wide m P l args W R) : YieldAt (Fence.wide.inRound l') m' P l args W R := by
  obtain ⟨fn, t, asg, bo, hy, hR⟩ := h
  exact ⟨fn, t, asg, bo, hy, hR.1, fun c cs _ => hR.2 c cs (room_wide _)⟩

/-- What draws its order goes into a round as it is. -/
theorem opIn_of_op {l m : Nat} {o : Oper} {a : Act} {w : World} {K : Act → World → Prop} {Q : Exit → Act → World → Prop} (hd : ∀ c, o.op ≠ .defer c) (h : o.wp P a w K Q) : o.wpIn (Fence.wide.inRound l) m P a w K Q := by
  refine ⟨fun _ _ => trivial, ?_⟩
  have e : o.semAt (Fence.wide.inRound l).round a.eval = execOp a.eval o := Oper.semAt_plain _ _ _ hd
  rw [e]
  unfold Oper.wp at h
  generalize (execOp a.eval o).run P w = r at *
  cases r with
  | ok x w' =>
    cases x with
    | value v => exact h
    | skip => exact h
    | defer d => exact h
    | enter f args => exact ⟨fun h0 => by simp [Fence.wide, Fence.inRound] at h0, callsIn_wide (n := m - 1) |>.2 h⟩
    | row row args =>
      refine ⟨fun h0 => by simp [Fence.wide, Fence.inRound] at h0, fun c cs _ => ?_⟩
      obtain ⟨v, w2, hr, hs⟩ := h c cs
      exact ⟨v, w2, hr, stepsIn_wide.2 hs⟩
    | _ => exact h.elim
  | halt x w' => cases x <;> exact h
theorem anyIn_of_any {l m : Nat} {md : Region.Mode} {ops : Array Oper} {Q : Exit → Act → World → Prop} (hd : ∀ (i : Nat) (o : Oper), ops[i]? = some o → ∀ c, o.op ≠ .defer c) (hQ : ¬ LetsOut Q) : ∀ (fuel : Nat) (listed : Array Bool) (a : Act) (w : World), wpAny P md ops Q fuel listed a w → wpAnyIn (Fence.wide.inRound l) m P md ops Q fuel listed a w
  | 0, _, _, _, h => h
  | fuel + 1, listed, a, w, h => by
    refine ⟨h.1, fun i hi => ?_⟩
    have h2 := h.2 i hi
    unfold wpOp at h2
    unfold wpOpIn
    cases ho : ops[i]? with
    | none =>
      rw [ho] at h2
      exact anyIn_of_any hd hQ fuel _ _ _ h2
    | some o =>
      rw [ho] at h2
      simp only at h2 ⊢
      split at h2
      · rename_i hw
        rw [if_pos hw]
        rcases h2 with h2 | h2
        · exact Oper.wpIn_mono (fun a' w' h' => anyIn_of_any hd hQ fuel _ _ _ h') (opIn_of_op (hd i o ho) h2)
        · exact absurd h2.2 hQ
      · rename_i hw
        rw [if_neg hw]
        exact ⟨fun _ _ => trivial, anyIn_of_any hd hQ fuel _ _ _ h2⟩
theorem wpIn_region_lift {l m id : Nat} {ops : Array Oper} {Q : Exit → Act → World → Prop} {a : Act} {w : World} (hm : P.follows .mixedOrders = true) (hd : ∀ o ∈ ops.toList, ∀ c, o.op ≠ .defer c) (hQ : ¬ LetsOut Q)
    (h : wpAny P .any ops Q ops.size (Array.replicate ops.size false) a w.drew) : (Code.region id ops true).wpIn (Fence.wide.inRound l) m P Q a w :=
  wpIn_region_any hm (anyIn_of_any (fun i o ho => hd o (by rw [Array.mem_toList_iff]; exact Array.mem_of_getElem? ho)) hQ _ _ _ _ h)
end Go.Proofs.YthmpimjmajoimaaGreatDoor
namespace Go.Proofs.YthmpimjmajoimaaGreatDoor
open Go.RowKit

/-- A region that draws its order, within a round: one walk in the order of the text, in every world that has the property G. -/
theorem wpIn_region_in {P : Program} {lp n0 id : Nat} {Q : Exit → Act → World → Prop} {a : Act} {w : World} {l : List Oper} (G : World → Prop) (hG : G w.drew) (hm : P.follows .mixedOrders = true) (hB : Region.lexB .any l.toArray = true) (hd : ∀ o ∈ l, ∀ c, o.op ≠ .defer c) (hQ : ¬ LetsOut Q)
    (h : Nonempty (In G) → wpQuiet P l.toArray (fun w' => ∃ n : In G, w' = n.w) (fun a' => ∀ n : In G, Q .normal a' n.w) l a) : (Code.region id l.toArray true).wpIn (Fence.wide.inRound lp) n0 P Q a w := by
  refine wpIn_region_lift hm (by simpa using hd) hQ ?_
  simp only [Region.lexB, Bool.and_eq_true] at hB
  refine wpAny_of_quiet (C := fun w' => ∃ n : In G, w' = n.w) (Q := fun a' => ∀ n : In G, Q .normal a' n.w) (fun a' w' hw' h' => ?_) _ _ _ _ ⟨⟨_, hG⟩, rfl⟩ ?_
  · obtain ⟨n, rfl⟩ := hw'
    exact h' n
  · have := wpAnyQ_lex (P := P) (C := fun w' => ∃ n : In G, w' = n.w) (md := .any) hB.1 l 0 (Array.replicate l.toArray.size false) a (by simp) (by simpa using hB.2) (h ⟨⟨_, hG⟩⟩)
    simpa using this
theorem own_cells {w : World} {base : Nat} {T : TypeId} {v : Value} {vs : List Value} (h : RowV w base T v vs) : ∀ g, v.ownBlock = some g → base ≤ g ∧ ∃ o : Obj, w.heap[g]? = some o ∧ o.isCells = true := by
  rcases h.2 with ⟨rfl, _⟩ | ⟨g, cap, cur, rfl, hb, hg, _⟩
  · intro j hj
    cases hj
  · intro j hj
    simp [Value.ownBlock] at hj
    subst hj
    exact ⟨hb, _, hg, rfl⟩
/-- What may turn: a block ahead of base, or one that is no cells. -/
def Far2 (base : Nat) (w : World) (row : Option Nat) : Prop := ∀ r, row = some r → r < base ∨ ∃ o : Obj, w.heap[r]? = some o ∧ o.isCells = false
theorem Far2.ne {base : Nat} {w : World} {row : Option Nat} (h : Far2 base w row) {g : Nat} (hb : base ≤ g) {o : Obj} (ho : w.heap[g]? = some o) (hc : o.isCells = true) : some g ≠ row := by
  intro e
  rcases h g e.symm with h1 | ⟨o', h1, h2⟩
  · omega
  · rw [ho] at h1
    cases h1
    rw [hc] at h2
    cases h2
/-- What was read of the first i pages. -/
structure GAcc (base : Nat) (w : World) (l : List (List Int)) (i : Nat) (v : Value) (vs : List Value) : Prop where
  row : RowV w base 61 v vs
  len : vs.length = i
  el : ∀ j (h : j < vs.length) (hl : j < l.length), ∃ g cap, vs[j] = .slice (some ⟨g, 0, none⟩) 16 cap ∧ Own8 w base g cap (l[j].drop 17)
  ok : ∀ j (hj : j < l.length), j < i → pgB (l.getD 0 []) j l[j] = true
theorem GAcc.kept {base i : Nat} {w w' : World} {l : List (List Int)} {v : Value} {vs : List Value} {row : Option Nat} (h : GAcc base w l i v vs) (hg : w.grownBy w' row) (hf : Far2 base w row) : GAcc base w' l i v vs :=
  ⟨h.row.kept hg (fun g e => by obtain ⟨hb, o, ho, hc⟩ := own_cells h.row g e; exact hf.ne hb ho hc), h.len, fun j h1 h2 => by
    obtain ⟨g, cap, e, ho⟩ := h.el j h1 h2
    obtain ⟨hb, o, hx, hc⟩ := own_cells (own8_row ho) g rfl
    exact ⟨g, cap, e, ho.kept hg (hf.ne hb hx hc)⟩, h.ok⟩
theorem GAcc.rise {base i : Nat} {w w' : World} {l : List (List Int)} {v : Value} {vs : List Value} (h : GAcc base w l i v vs) (hb : Below w.heap.size w w') : GAcc base w' l i v vs := h.kept (grown_none hb) (fun _ e => by cases e)
theorem GAcc.step {base i g cap : Nat} {w w4 : World} {l : List (List Int)} {v v4 : Value} {vs : List Value} (h : GAcc base w l i v vs) (hi : i < l.length) (hg : w.grownBy w4 v.ownBlock) (hr : RowV w4 base 61 v4 (vs ++ [.slice (some ⟨g, 0, none⟩) 16 cap])) (ho : Own8 w base g cap (l[i].drop 17)) (hok : pgB (l.getD 0 []) i l[i] = true) :
    GAcc base w4 l (i + 1) v4 (vs ++ [.slice (some ⟨g, 0, none⟩) 16 cap]) := by
  have far : ∀ {g cap : Nat} {xs : List Int}, Own8 w base g cap xs → Own8 w4 base g cap xs := fun {g cap xs} ho => ho.kept hg ((own8_row ho).apart h.row (by decide) g rfl)
  refine ⟨hr, by simp [h.len], fun j h1 h2 => ?_, fun j hj hlt => ?_⟩
  · by_cases hji : j < vs.length
    · obtain ⟨g', cap', e, ho'⟩ := h.el j hji h2
      exact ⟨g', cap', by rw [List.getElem_append_left hji]; exact e, far ho'⟩
    · have hlen := h.len
      have : j = i := by rw [List.length_append] at h1; simp at h1; omega
      subst this
      refine ⟨g, cap, ?_, far ho⟩
      rw [List.getElem_append_right (by omega)]
      simp
  · by_cases e : j = i
    · subst e
      exact hok
    · exact h.ok j hj (by omega)
theorem GAcc.fin {base : Nat} {w : World} {l : List (List Int)} {v : Value} {vs : List Value} (h : GAcc base w l l.length v vs) : pagesOk l = true ∧ RdR w vs (blk17 l) := by
  refine ⟨okP_yes (fun j hj => h.ok j hj hj), by rw [h.len]; simp [blk17], fun j h1 h2 => ?_⟩
  have hj : j < l.length := by rw [← h.len]; exact h1
  obtain ⟨g, cap, e, ho⟩ := h.el j h1 hj
  have hb : (blk17 l)[j] = l[j].drop 17 := by simp [blk17]
  have h16 : (l[j].drop 17).length = 16 := by rw [List.length_drop, pgB_len (h.ok j hj hj)]
  refine ⟨some ⟨g, 0, none⟩, cap, by rw [hb, h16]; exact e, by rw [hb]; exact ho.cap, by rw [hb]; exact ho.rd⟩
/-- The head of the first page. -/
def topK (_l : List (List Int)) (i : Nat) : Int := if i = 0 then 0 else 5
def topN (l : List (List Int)) (i o : Nat) : Int := if i = 0 then 0 else bk (l.getD 0 []) o
/-- gather's variables behind i pages: R, R + 1, R + 2 the results, R + 3 the first head, R + 4 the blocks. -/
structure GathT (w0 : World) (R N0 : Nat) (l : List (List Int)) (i : Nat) (t0 t1 t2 t3 : Int) (W : World) : Prop where
  old : Below w0.heap.size w0 W
  size : N0 ≤ W.heap.size
  r0 : Blk W R 159 [.int .u8 0, .int .u32 0, .int .u32 0, .int .u32 0]
  r1 : Boxed W (R + 1) 60 (.slice none 0 0)
  r2 : Boxed W (R + 2) 4 (.bool false)
  top : Blk W (R + 3) 159 [.int .u8 t0, .int .u32 t1, .int .u32 t2, .int .u32 t3]
  row : ∃ v vs, Boxed W (R + 4) 60 v ∧ GAcc N0 W l i v vs
theorem GathT.kept {w0 : World} {R N0 : Nat} {l : List (List Int)} {i : Nat} {t0 t1 t2 t3 : Int} {W W' : World} {row : Option Nat} (h : GathT w0 R N0 l i t0 t1 t2 t3 W) (hR : w0.heap.size ≤ R) (hN : R + 7 ≤ N0) (hg : W.grownBy W' row) (hr : ∀ r, row = some r → N0 ≤ r ∧ ∃ o : Obj, W.heap[r]? = some o ∧ o.isCells = false) : GathT w0 R N0 l i t0 t1 t2 t3 W' := by
  have ne : ∀ k, k < N0 → some k ≠ row := fun k hk e => by
    have := (hr k e.symm).1
    omega
  obtain ⟨v, vs, hv, hc⟩ := h.row
  refine ⟨h.old.grown hg h.old.size (fun k e => by have := (hr k e).1; omega), Nat.le_trans h.size hg.size, ?_, h.r1.kept hg (ne _ (by omega)), h.r2.kept hg (ne _ (by omega)), ?_, v, vs, hv.kept hg (ne _ (by omega)), hc.kept hg (fun r e => .inr (hr r e).2)⟩
  · exact (hg.block R (lt_of_block h.r0) (ne _ (by omega))).trans h.r0
  · exact (hg.block (R + 3) (lt_of_block h.top) (ne _ (by omega))).trans h.top
theorem GathT.rise {w0 : World} {R N0 : Nat} {l : List (List Int)} {i : Nat} {t0 t1 t2 t3 : Int} {W W' : World} (h : GathT w0 R N0 l i t0 t1 t2 t3 W) (hR : w0.heap.size ≤ R) (hN : R + 7 ≤ N0) (hb : Below W.heap.size W W') : GathT w0 R N0 l i t0 t1 t2 t3 W' := h.kept hR hN (grown_none hb) (fun r e => by cases e)
/-- The first head is put. -/
def topW (u : World) (T : Nat) (k0 k1 k2 k3 : Int) : World := (((u.setCell ⟨T, 0, none⟩ (.int .u8 k0)).setCell ⟨T, 1, none⟩ (.int .u32 k1)).setCell ⟨T, 2, none⟩ (.int .u32 k2)).setCell ⟨T, 3, none⟩ (.int .u32 k3)
theorem topW_kept (u : World) (T : Nat) (k0 k1 k2 k3 : Int) : Kept (fun k => k = T) u (topW u T k0 k1 k2 k3) ∧ KeepsOthers u (topW u T k0 k1 k2 k3) :=
  ⟨((((Kept.refl (fun k => k = T) u).put (g := T) (.inl rfl) 0 _).put (g := T) (.inl rfl) 1 _).put (g := T) (.inl rfl) 2 _).put (g := T) (.inl rfl) 3 _, (((KeepsOthers.setCell u ⟨T, 0, none⟩ _).trans (KeepsOthers.setCell _ ⟨T, 1, none⟩ _)).trans (KeepsOthers.setCell _ ⟨T, 2, none⟩ _)).trans (KeepsOthers.setCell _ ⟨T, 3, none⟩ _)⟩
theorem kept_grown {w w' : World} {g : Nat} (h : Kept (fun k => k = g) w w') : w.grownBy w' (some g) := ⟨h.os, h.tape, h.output, h.size, fun k hk hn => h.block k hk (fun e => hn (by rw [e]))⟩
theorem GathT.head {w0 : World} {R N0 : Nat} {l : List (List Int)} {i : Nat} {t0 t1 t2 t3 : Int} {W : World} (h : GathT w0 R N0 l i t0 t1 t2 t3 W) (hR : w0.heap.size ≤ R) (hN : R + 7 ≤ N0) (k0 k1 k2 k3 : Int) : GathT w0 R N0 l i k0 k1 k2 k3 (topW W (R + 3) k0 k1 k2 k3) := by
  obtain ⟨k, _⟩ := topW_kept W (R + 3) k0 k1 k2 k3
  obtain ⟨v, vs, hv, hc⟩ := h.row
  refine ⟨h.old.trans (k.below h.old.size (fun j e => by omega)), Nat.le_trans h.size k.size, k.blk h.r0 (by omega), k.blk h.r1 (by omega), k.blk h.r2 (by omega), ?_, v, vs, k.blk hv (by omega), hc.kept (kept_grown k) (fun r e => .inl (by have := Option.some.inj e; omega))⟩
  exact ((((h.top.put 0 (.int .u8 k0)).put 1 (.int .u32 k1)).put 2 (.int .u32 k2)).put 3 (.int .u32 k3))
abbrev Gath (w0 : World) (R N0 : Nat) (l : List (List Int)) (i : Nat) (W : World) : Prop := GathT w0 R N0 l i (topK l i) (topN l i 1) 0 (topN l i 9) W
/-- Behind a page that is none at its place. -/
structure GStop (w0 : World) (R N0 : Nat) (l : List (List Int)) (W : World) : Prop where
  old : Below w0.heap.size w0 W
  size : N0 ≤ W.heap.size
  r0 : Blk W R 159 [.int .u8 0, .int .u32 0, .int .u32 0, .int .u32 0]
  r1 : Boxed W (R + 1) 60 (.slice none 0 0)
  r2 : Boxed W (R + 2) 4 (.bool false)
  bad : pagesOk l = false
theorem GStop.kept {w0 : World} {R N0 : Nat} {l : List (List Int)} {W W' : World} {row : Option Nat} (h : GStop w0 R N0 l W) (hR : w0.heap.size ≤ R) (hN : R + 7 ≤ N0) (hg : W.grownBy W' row) (hr : ∀ r, row = some r → N0 ≤ r ∧ ∃ o : Obj, W.heap[r]? = some o ∧ o.isCells = false) : GStop w0 R N0 l W' := by
  have ne : ∀ k, k < N0 → some k ≠ row := fun k hk e => by
    have := (hr k e.symm).1
    omega
  exact ⟨h.old.grown hg h.old.size (fun k e => by have := (hr k e).1; omega), Nat.le_trans h.size hg.size, (hg.block R (lt_of_block h.r0) (ne _ (by omega))).trans h.r0, h.r1.kept hg (ne _ (by omega)), h.r2.kept hg (ne _ (by omega)), h.bad⟩
end Go.Proofs.YthmpimjmajoimaaGreatDoor
