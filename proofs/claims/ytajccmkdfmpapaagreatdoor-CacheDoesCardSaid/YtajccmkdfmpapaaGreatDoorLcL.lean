/-
  The cache in memory: Clean.
-/
import Derived.Test.YtajccmkdfmpapaaGreatDoorLcJ
namespace Go.Proofs.YtajccmkdfmpapaaGreatDoor
open Go.RowKit
attribute [local go_sem] Oper.semAt_some

theorem ownFrom_kept {β : Type} {B : Nat} {I : β → World → Prop} (h : ∀ s A C, I s A → Kept (fun k => B ≤ k) A C → I s C) : OwnFrom B I :=
  fun s A C _ hs hg hr => h s A C hs ((Kept.refl _ A).grown hg (fun k e => .inl (hr k e).1))
theorem Kept.late {F : Nat → Prop} {B : Nat} {w A C : World} (h : Kept F w A) (k : Kept (fun k => B ≤ k) A C) (hB : w.heap.size ≤ B) : Kept F w C :=
  ⟨k.os.trans h.os, k.tape.trans h.tape, k.output.trans h.output, Nat.le_trans h.size k.size, fun i hi hn => (k.block i (Nat.lt_of_lt_of_le hi h.size) (by omega)).trans (h.block i hi hn)⟩
theorem noK_int : ¬ KTy 3 := by unfold KTy; decide
/-- Those of these blocks aren't dirty any more. -/
def clB (bs : List Nat) (e : CE) : CE := if e.b ∈ bs then { e with d := false } else e
theorem clB_b (bs : List Nat) (e : CE) : (clB bs e).b = e.b := by
  unfold clB
  split <;> rfl
def clL (bs : List Nat) (L : List CE) : List CE := L.map (clB bs)
theorem clL_b (bs : List Nat) (L : List CE) : (clL bs L).map CE.b = L.map CE.b := by
  unfold clL
  rw [List.map_map]
  exact List.map_congr_left fun e _ => clB_b bs e
theorem clL_nil (L : List CE) : clL [] L = L := by
  unfold clL clB
  simp
theorem clL_snoc (bs : List Nat) (L : List CE) (b : Nat) : clL (bs ++ [b]) L = setE (clL bs L) (b : Int) (fun e => { e with d := false }) := by
  unfold clL setE
  rw [List.map_map]
  refine List.map_congr_left fun e _ => ?_
  simp only [Function.comp]
  by_cases h : (e.b : Int) = (b : Int)
  · rw [if_pos (by rw [clB_b]; exact h)]
    have : e.b = b := by omega
    unfold clB
    rw [if_pos (by simp [this])]
    split <;> rfl
  · rw [if_neg (by rw [clB_b]; exact h)]
    have : e.b ≠ b := by omega
    unfold clB
    simp [this]
theorem clL_clean {S : CaS} (hw : S.WF) (t : Int) : clL ((S.dirtyL t).map CE.b) S.E = (S.cleanS t).E := by
  unfold clL CaS.cleanS
  refine List.map_congr_left fun e he => ?_
  unfold clB
  have : e.b ∈ (S.dirtyL t).map CE.b ↔ CaS.isD t e = true := by
    constructor
    · intro h
      obtain ⟨e2, h2, hb⟩ := List.mem_map.1 h
      obtain ⟨h3, h4⟩ := List.mem_filter.1 h2
      obtain ⟨i, hi, rfl⟩ := List.getElem_of_mem he
      obtain ⟨j, hj, rfl⟩ := List.getElem_of_mem h3
      have := asc_inj hw.asc hj hi hb
      subst this
      exact h4
    · intro h
      exact List.mem_map_of_mem (List.mem_filter.2 ⟨he, h⟩)
  by_cases h : CaS.isD t e = true
  · rw [if_pos (this.2 h), if_pos h]
  · rw [if_neg (fun h2 => h (this.1 h2)), if_neg h]
section
variable {w : World} {cb kb ib eb : Nat} {σ : Nat → Nat} {S : CaS}
/-- What cleaning keeps: behind ys. -/
structure ClI (w : World) (L cb kb ib eb : Nat) (σ : Nat → Nat) (S : CaS) (ys : List CE) (W : World) : Prop where
  n : Blk W L 3 [.int .i64 (ys.length : Int)]
  c : LcC W cb kb ib eb σ { S with E := clL (ys.map CE.b) S.E }
  k : Kept (fun k => k = eb) w W
  m : ∀ e ∈ ys, e ∈ S.E
theorem ClI.own {L B : Nat} (hB : w.heap.size ≤ B) (hL : L < B) (hc : cb < w.heap.size) (hne : kb < ib ∧ ib < eb ∧ eb < cb) : OwnFrom B (ClI w L cb kb ib eb σ S) := ownFrom_kept fun s A C h k =>
  ⟨k.blk h.n (by omega), h.c.keep k (by omega) (by omega) (by omega) (by omega), h.k.late k hB, h.m⟩
theorem ClI.at {L : Nat} {ys : List CE} {W : World} (h : ClI w L cb kb ib eb σ S ys W) (hw : S.WF) {e : CE} (he : e ∈ S.E) (hn : e ∉ ys) : W.cell? ⟨eb, σ e.b * 3, none⟩ = some (.int .i64 (e.b : Int)) ∧ W.cell? ⟨eb, σ e.b * 3 + 1, none⟩ = some (.int .u32 (e.a : Int)) ∧ W.cell? ⟨eb, σ e.b * 3 + 2, none⟩ = some (.bool e.d) := by
  have hne : e.b ∉ ys.map CE.b := fun hb => by
    obtain ⟨e2, h2, h3⟩ := List.mem_map.1 hb
    obtain ⟨i, hi, rfl⟩ := List.getElem_of_mem he
    obtain ⟨j, hj, hj2⟩ := List.getElem_of_mem (h.m e2 h2)
    have := asc_inj hw.asc hj hi (by rw [hj2]; exact h3)
    subst this
    rw [hj2] at hn
    exact hn h2
  have hc : clB (ys.map CE.b) e = e := if_neg hne
  have hm : e ∈ clL (ys.map CE.b) S.E := by
    have := List.mem_map_of_mem (f := clB (ys.map CE.b)) he
    rwa [hc] at this
  obtain ⟨_, a, b, c⟩ := h.c.slot hm
  exact ⟨a, b, c⟩
theorem ClI.step {L : Nat} {ys : List CE} {W : World} (h : ClI w L cb kb ib eb σ S ys W) (hw : S.WF) {e : CE} (he : e ∈ S.E) (hL : w.heap.size ≤ L) (hc : cb < w.heap.size) :
    ClI w L cb kb ib eb σ S (ys ++ [e]) ((W.setCell ⟨eb, σ e.b * 3 + 2, none⟩ (.bool false)).setCell ⟨L, 0, none⟩ (.int .i64 ((ys.length + 1 : Nat) : Int))) := by
  have hne := h.c.ne
  have hk1 := kept_put W eb (σ e.b * 3 + 2) (.bool false)
  have hk2 := kept_put (W.setCell ⟨eb, σ e.b * 3 + 2, none⟩ (.bool false)) L 0 (.int .i64 ((ys.length + 1 : Nat) : Int))
  have hLC : LcC (W.setCell ⟨eb, σ e.b * 3 + 2, none⟩ (.bool false)) cb kb ib eb σ { S with E := clL ((ys ++ [e]).map CE.b) S.E } := by
    obtain ⟨cs, hbk, hl, hE⟩ := h.c.e
    have hcl : (clL (ys.map CE.b) S.E).map CE.b = S.E.map CE.b := clL_b _ _
    have hmem : ∃ z ∈ clL (ys.map CE.b) S.E, z.b = e.b := ⟨clB (ys.map CE.b) e, List.mem_map_of_mem he, clB_b _ _⟩
    obtain ⟨z0, hz0, hzb⟩ := hmem
    have hs := hE.set2 (b := e.b) (f := fun _ => false) (v := false) (fun z hz e2 => by
      have := h.c.inj z hz z0 hz0 (by rw [hzb]; exact e2)
      rw [this, hzb]) (fun _ _ _ => rfl)
    have hmm : (ys ++ [e]).map CE.b = ys.map CE.b ++ [e.b] := by simp
    rw [hmm, clL_snoc]
    exact h.c.entries hk1 (hbk.put _ _) (by simpa using hl) hs (setE_b _ (fun _ => rfl))
  refine ⟨?_, hLC.keep hk2 (by omega) (by omega) (by omega) (by omega), ?_, fun z hz => ?_⟩
  · have h1 := hk1.blk h.n (by omega)
    have := h1.put 0 (.int .i64 ((ys.length + 1 : Nat) : Int))
    rw [List.length_append]
    exact this
  · exact (h.k.and hk1).put (.inr hL) 0 _
  · rcases List.mem_append.1 hz with hz | hz
    · exact h.m z hz
    · simp at hz
      subst hz
      exact he
set_option maxHeartbeats 4000000 in
set_option maxRecDepth 100000 in
theorem lcclean_at (t : Int) (h : LcC w cb kb ib eb σ S) : Calls Tryz.prog 23 #[.pointer (some ⟨cb, 0, none⟩), .int .i64 t] w (LcTo cb kb ib eb (.int .i64 ((S.dirtyL t).length : Int)) (S.cleanS t) w) := by
  have HH := Lib.hid h
  have hlt := h.lt
  have hne := h.ne
  have hn64 : (S.dirtyL t).length ≤ 64 := Nat.le_trans (List.length_filter_le _ _) (Nat.le_trans h.wf.le h.wf.n64)
  have HN64 := Lib.hid hn64
  have HNE := Lib.hid hne
  have HLT := Lib.hid hlt
  clear h hlt hne hn64
  refine (callsIn_wide (n := 6)).1 ?_
  refine callsIn_of_wp_marks Tryz.func23 rfl trivial ?_ rfl
  simp only [Tryz.ntmps23, List.size_toArray, List.length_cons, List.length_nil, Nat.reduceAdd, Nat.reduceSub, Array.replicate_succ, Array.replicate_zero, List.push_toArray, List.append_toArray, List.nil_append, List.cons_append]
  refine wpIn_wide.2 ?_
  go_wp2_with (first
    | (go_at_call 39; refine (lcdirtyI_at cb t _).mono ?_; rintro r w11 ⟨rfl, rfl⟩)
    | fail)
  obtain ⟨L, hL⟩ : ∃ L, w.heap.size = L := ⟨_, rfl⟩
  obtain ⟨W0, hW0⟩ : ∃ W0 : World, W0 = ((w.alloc (.cells #[.int .i64 0] 3)).alloc (.cells #[.pointer (some ⟨cb, 0, none⟩)] 24)).alloc (.cells #[.int .i64 t] 3) := ⟨_, rfl⟩
  have hs0 : W0.heap.size = L + 3 := by rw [hW0]; simp [hL]
  obtain ⟨X, hX⟩ : ∃ X : Nat → Prop, X = (fun k => k = L ∨ k = eb) := ⟨_, rfl⟩
  have HBX0 : Hid (Blk W0 L 3 [.int .i64 0]) := Lib.hid (by
    rw [hW0, ← hL]
    exact ((Boxed.new w 3 (.int .i64 0)).alloc _).alloc _)
  have HPB0 : Hid (Boxed W0 (L + 1) 24 (.pointer (some ⟨cb, 0, none⟩))) := Lib.hid (by
    have := Boxed.new (w.alloc (.cells #[.int .i64 0] 3)) 24 (.pointer (some ⟨cb, 0, none⟩))
    rw [World.size_alloc, hL] at this
    rw [hW0]
    exact this.alloc _)
  have HTB0 : Hid (Blk W0 (L + 2) 3 [.int .i64 t]) := Lib.hid (by
    have := Boxed.new ((w.alloc (.cells #[.int .i64 0] 3)).alloc (.cells #[.pointer (some ⟨cb, 0, none⟩)] 24)) 3 (.int .i64 t)
    rw [World.size_alloc, World.size_alloc, hL] at this
    rw [hW0]
    exact this)
  have HBW0 : Hid (Below w.heap.size w W0) := Lib.hid (by
    rw [hW0]
    exact (((Below.refl w.heap.size w).alloc (Nat.le_refl _) _).alloc (by rw [World.size_alloc]; omega) _).alloc (by rw [World.size_alloc, World.size_alloc]; omega) _)
  have HLN := Lib.hid hL
  rw [← hW0, hL]
  clear hW0
  refine (wpIn_wide (n := 3)).1 ?_
  refine range_seenG (α := CE) (gf := 62) (lb := #[.pointer (some ⟨L + 1, 0, none⟩), .pointer (some ⟨L + 2, 0, none⟩)]) rfl (by omega) rfl trivial (enters_of Tryz.func62 (by kernel_rfl) rfl) (encs := fun (e : CE) => #[Value.pointer (some ⟨eb, σ e.b * 3, none⟩)]) (Kp := KeepT (L + 3) X) (E := fun pre W1 => ∀ e ∈ S.E, e ∉ pre → W1.cell? ⟨eb, σ e.b * 3, none⟩ = some (.int .i64 (e.b : Int)) ∧ W1.cell? ⟨eb, σ e.b * 3 + 2, none⟩ = some (.bool e.d)) (G := Nxt (S.dirtyL t)) (S := fun ys _ => ys = S.dirtyL t) ?seq (fun h k => h.trans k)
    (fun W q o o' hq ho hc => KeepT.putObj o' (by omega) ho hc) (fun ys W q o o' _ hs _ _ => hs) (fun _ => rfl)
    (fun ys W => ClI w L cb kb ib eb σ S ys W ∧ L + 3 ≤ W.heap.size)
    (OwnFrom.and (ClI.own (by omega) (by omega) HLT.out HNE.out) (fun _ _ _ _ hs hg _ => Nat.le_trans hs hg.size))
    (fun pre W1 hI e he hn => by have hq := hI.1.at HH.out.wf he hn; exact ⟨hq.1, hq.2.2⟩)
    ⟨⟨HBX0.out, by show LcC _ _ _ _ _ _ { S with E := clL [] S.E }; rw [clL_nil]; exact HH.out.up HBW0.out, Kept.of_below HBW0.out, fun e he => (by cases he)⟩, by omega⟩
    (fun x => { tmps := #[.pointer (some ⟨cb, 0, none⟩), .int .i64 t, undef, undef, .int .i64 0, .pointer (some ⟨L, 0, none⟩), .pointer (some ⟨eb, σ x.b * 3, none⟩), .pointer (some ⟨cb, 0, none⟩), .int .i64 t, .func (Fn.func 62) #[] #[.pointer (some ⟨L + 1, 0, none⟩), .pointer (some ⟨L + 2, 0, none⟩)], .pointer (some ⟨eb, σ x.b * 3, none⟩), undef, undef, undef, undef, undef, undef], defers := [] }) ?assign ?body ?done
  case seq =>
    intro ly J W hbW hJ hE hY h0
    refine callsIn_wide.2 ?_
    have h2 := HH.out.up HBW0.out
    have h3 := h2.up hbW
    exact ldirtyA_in (NB := L + 3) (X := X) (TB := L + 2) (fun e he => (HH.out.slot he).1) HH.out.wf (by have := HLT.out; omega) (by rw [hX]; have := HNE.out; have := HLT.out; omega) (by have := HNE.out; have := HLT.out; omega) (by rw [hX]; have := HNE.out; have := HLT.out; omega) (by omega) (by rw [hX]; have := HNE.out; have := HLT.out; omega) ly J W (by have := hbW.size; omega) hJ hE hY h0 ⟨h3.b, h3.x, (hbW.block (L + 1) (by omega)).trans HPB0.out⟩ ((hbW.block (L + 2) (by omega)).trans HTB0.out)
  case assign =>
    intro ly x W K hK
    gi_wp2
    exact hK
  case body =>
    rintro ly pre x W ⟨hI, hWs⟩ hG
    have hxm : x ∈ S.E := (List.mem_filter.1 (nxt_mem hG).1).1
    have hdm := (nxt_mem hG).2
    have hpl : pre.length ≤ 64 := by have := HN64.out; omega
    have hxn : x ∉ pre := by
      refine nxt_not hG ?_
      exact HH.out.wf.asc.filter _
    have HI := Lib.hid hI
    have HST := Lib.hid (hI.step HH.out.wf hxm (by omega) HLT.out)
    obtain ⟨_, _, q2⟩ := hI.at HH.out.wf hxm hxn
    have hfz := hI.c.free (σ x.b * 3 + 2)
    have hn0 := hI.n.cell 0 (by simp)
    have hnf := hI.n.free 0
    simp only [List.getElem_cons_zero] at hn0
    have hel : eb < L := by have := HNE.out; have := HLT.out; omega
    have HKT : Hid (∀ u v, KeepT (L + 3) X W ((W.setCell ⟨eb, σ x.b * 3 + 2, none⟩ u).setCell ⟨L, 0, none⟩ v)) := Lib.hid (fun u v => by
      obtain ⟨cs, hbk, _⟩ := hI.c.e
      refine (KeepT.grown hWs (grown_put (World.grownBy.refl W (some eb)) (σ x.b * 3 + 2) u) (fun g e => ?_)).trans (KeepT.grown ?_ (grown_put (World.grownBy.refl _ (some L)) 0 v) (fun g e => ?_))
      · have e := Option.some.inj e
        subst e
        exact ⟨.inl (by rw [hX]; exact .inr rfl), _, _, hbk, noK_caE⟩
      · have := (kept_put W eb (σ x.b * 3 + 2) u).size
        omega
      · have e := Option.some.inj e
        subst e
        exact ⟨.inl (by rw [hX]; exact .inl rfl), _, _, (kept_put W eb (σ x.b * 3 + 2) u).blk hI.n (by omega), noK_int⟩)
    have HKO : Hid (∀ u v, KeepsOthers W ((W.setCell ⟨eb, σ x.b * 3 + 2, none⟩ u).setCell ⟨L, 0, none⟩ v)) := Lib.hid (fun u v => (KeepsOthers.setCell _ _ _).trans (KeepsOthers.setCell _ _ _))
    have HSZ : Hid (∀ u v, L + 3 ≤ ((W.setCell ⟨eb, σ x.b * 3 + 2, none⟩ u).setCell ⟨L, 0, none⟩ v).heap.size) := Lib.hid (fun u v => by
      have := (HKO.out u v).size
      omega)
    obtain ⟨s, hs⟩ : ∃ s, σ x.b = s := ⟨_, rfl⟩
    rw [hs] at q2 hfz HKT HKO HSZ HST ⊢
    obtain ⟨w7, hw7⟩ : ∃ w7, W.setCell ⟨eb, s * 3 + 2, none⟩ (.bool false) = w7 := ⟨_, rfl⟩
    have hn1 : w7.cell? ⟨L, 0, none⟩ = some (.int .i64 (pre.length : Int)) := by
      rw [← hw7]
      exact (kept_put W eb (s * 3 + 2) (.bool false)).cell hn0 (show ¬ L = eb by omega)
    have hnf1 : w7.frozen? ⟨L, 0, none⟩ = false := by
      rw [← hw7]
      exact ((kept_put W eb (s * 3 + 2) (.bool false)).blk hI.n (by omega)).free 0
    have HKT2 := Lib.hid (HKT.out (.bool false))
    have HKO2 := Lib.hid (HKO.out (.bool false))
    have HSZ2 := Lib.hid (HSZ.out (.bool false))
    rw [hw7] at HST HKT2 HKO2 HSZ2
    obtain ⟨m, hm⟩ : ∃ m, pre.length = m := ⟨_, rfl⟩
    rw [hm] at hn1 hpl HST
    have hadd : (m : Int) + 1 = ((m + 1 : Nat) : Int) := by omega
    have HADD := Lib.hid hadd
    clear hI hWs hG hxm hdm hxn hs hn0 hnf HI HKT HKO HSZ hm hadd
    gi_wp2
    exact ⟨HKO2.out _, by have := HKT2.out (.int .i64 ((m : Int) + 1)); rw [hX] at this; exact this, by have := HST.out; rw [← HADD.out] at this; exact this, by have := HSZ2.out (.bool false); simpa using this⟩
  case done =>
    rintro D ys W hD hys ⟨hI, hWs⟩ hK
    subst hys
    have hc := hI.n.cell 0 (by simp)
    simp only [List.getElem_cons_zero] at hc
    have HE : Hid (∀ W', Kept (fun k => L + 3 ≤ k) W W' → LcTo cb kb ib eb (.int .i64 ((S.dirtyL t).length : Int)) (S.cleanS t) w (.returned (.int .i64 ((S.dirtyL t).length : Int))) W') := Lib.hid (fun W' hk => by
      have hc := hI.c
      rw [clL_clean HH.out.wf] at hc
      have hne := HNE.out
      have hlt := HLT.out
      exact ⟨rfl, ⟨σ, hc.keep hk (by omega) (by omega) (by omega) (by omega)⟩, (hI.k.late hk (by omega)).mono (fun k _ e => .inr (.inr e))⟩)
    clear hI
    go_wp2_with fail
    refine ⟨by simp, .inl ⟨_, _, rfl, run_takeDeferred hK, ?_⟩⟩
    exact ⟨.int .i64 ((S.dirtyL t).length : Int), by simp [results, Tryz.results23, go_sem], HE.out _ ((Kept.refl _ W).grown (grownBy_putObj' W D (.deferred none)) (fun k e => by have e := Option.some.inj e; exact .inl (by omega)))⟩
end
end Go.Proofs.YtajccmkdfmpapaaGreatDoor
