/-
  The cache in memory: Tables.
-/
import Derived.Test.YtajccmkdfmpapaaGreatDoorLcL
import Derived.Test.YtajccmkdfmpapaaGreatDoorLcM
namespace Go.Proofs.YtajccmkdfmpapaaGreatDoor
open Go.RowKit
attribute [local go_sem] Oper.semAt_some

theorem noK_ints : ¬ KTy 43 := by unfold KTy; decide
theorem cpt_len (xs : List Nat) : ∀ k, (cpt xs k).length ≤ k
  | 0 => by simp [cpt]
  | k + 1 => by
    have ih := cpt_len xs k
    show (if 0 < k ∧ xs[k]? = xs[k - 1]? then cpt xs k else cpt xs k ++ xs[k]?.toList).length ≤ k + 1
    split
    · omega
    · rw [List.length_append]
      cases xs[k]? <;> simp <;> omega
/-- Map pages of what is dirty. -/
def tbs (L : List CE) : List Nat := (L.filter (fun e => e.d)).map (fun e => e.b / 4)
theorem tbs_len (L : List CE) : (tbs L).length ≤ L.length := by
  unfold tbs
  rw [List.length_map]
  exact List.length_filter_le _ _
theorem tbs_snoc (L : List CE) (x : CE) : tbs (L ++ [x]) = if x.d = true then tbs L ++ [x.b / 4] else tbs L := by
  unfold tbs
  rw [List.filter_append, List.map_append]
  cases h : x.d with
  | true => simp [h]
  | false => simp [h]
theorem ownsRowLe {w : World} {base base' e size n : Nat} {v : Value} {xs : List Value} (h : w.ownsRow base e size v n xs) (hb : base' ≤ base) : w.ownsRow base' e size v n xs :=
  ⟨h.1, h.2.imp id fun ⟨g', c', cur, hv, hg, r⟩ => ⟨g', c', cur, hv, Nat.le_trans hb hg, r⟩⟩
section
variable {w : World} {cb kb ib eb : Nat} {σ : Nat → Nat} {S : CaS}
set_option maxHeartbeats 4000000 in
set_option maxRecDepth 100000 in
theorem lctables_at (h : LcC w cb kb ib eb σ S) : Calls Tryz.prog 17 #[.pointer (some ⟨cb, 0, none⟩)] w (ListIs S.tabL w) := by
  have HH := Lib.hid h
  have hlt := h.lt
  have hne := h.ne
  have hn64 : S.E.length ≤ 64 := Nat.le_trans h.wf.le h.wf.n64
  have HN64 := Lib.hid hn64
  have HNE := Lib.hid hne
  have HLT := Lib.hid hlt
  clear h hlt hne hn64
  refine (callsIn_wide (n := 6)).1 ?_
  refine callsIn_of_wp_marks Tryz.func17 rfl trivial ?_ rfl
  simp only [Tryz.ntmps17, List.size_toArray, List.length_cons, List.length_nil, Nat.reduceAdd, Nat.reduceSub, Array.replicate_succ, Array.replicate_zero, List.push_toArray, List.append_toArray, List.nil_append, List.cons_append]
  refine wpIn_wide.2 ?_
  go_wp2_with (first
    | (go_at_call 38; refine (lcknown_at cb _).mono ?_; rintro r w11 ⟨rfl, rfl⟩)
    | fail)
  obtain ⟨L, hL⟩ : ∃ L, w.heap.size = L := ⟨_, rfl⟩
  obtain ⟨W0, hW0⟩ : ∃ W0 : World, W0 = (w.alloc (.cells #[.slice none 0 0] 43)).alloc (.cells #[.pointer (some ⟨cb, 0, none⟩)] 24) := ⟨_, rfl⟩
  have hs0 : W0.heap.size = L + 2 := by rw [hW0]; simp [hL]
  obtain ⟨X, hX⟩ : ∃ X : Nat → Prop, X = (fun k => k = L ∨ k = eb) := ⟨_, rfl⟩
  have HBX0 : Hid (Boxed W0 L 43 (.slice none 0 0)) := Lib.hid (by
    rw [hW0, ← hL]
    exact (Boxed.new w 43 (.slice none 0 0)).alloc _)
  have HPB0 : Hid (Boxed W0 (L + 1) 24 (.pointer (some ⟨cb, 0, none⟩))) := Lib.hid (by
    have := Boxed.new (w.alloc (.cells #[.slice none 0 0] 43)) 24 (.pointer (some ⟨cb, 0, none⟩))
    rw [World.size_alloc, hL] at this
    rw [hW0]
    exact this)
  have HBW0 : Hid (Below w.heap.size w W0) := Lib.hid (by
    rw [hW0]
    exact ((Below.refl w.heap.size w).alloc (Nat.le_refl _) _).alloc (by rw [World.size_alloc]; omega) _)
  have HLN := Lib.hid hL
  rw [← hW0, hL]
  clear hW0
  refine (wpIn_wide (n := 3)).1 ?_
  refine range_seenG (α := CE) (gf := 59) (lb := #[.pointer (some ⟨L + 1, 0, none⟩)]) rfl (by omega) rfl trivial (enters_of Tryz.func59 (by kernel_rfl) rfl) (encs := fun (e : CE) => #[Value.pointer (some ⟨eb, σ e.b * 3, none⟩)]) (Kp := KeepT (L + 2) X) (E := fun _ _ => True) (G := Nxt S.E) (S := fun ys _ => ys = S.E) ?seq (fun h k => h.trans k)
    (fun W q o o' hq ho hc => KeepT.putObj o' (by omega) ho hc) (fun ys W q o o' _ hs _ _ => hs) (fun _ => rfl)
    (fun ys W => (∃ v, Boxed W L 43 v ∧ W.ownsRow (L + 2) 3 1 v (tbs ys).length (iCells (nats (tbs ys))) ∧ True) ∧ (Below w.heap.size w W ∧ W0.heap.size ≤ W.heap.size))
    (OwnFrom.and (Own.from (holdsRow_own (L + 2) L 43 3 1 (fun (ys : List CE) => (tbs ys).length) (fun (ys : List CE) => iCells (nats (tbs ys))) (fun _ _ => True)) _) (OwnFrom.and (ownFrom_below (Nat.le_refl _) (by rw [hs0]; omega)) (fun _ _ _ _ hs hg _ => Nat.le_trans hs hg.size)))
    (fun _ _ _ => trivial) ⟨⟨_, HBX0.out, World.ownsRow_nil _ _ _ _, trivial⟩, HBW0.out, Nat.le_refl _⟩
    (fun x => { tmps := #[.pointer (some ⟨cb, 0, none⟩), undef, .slice none 0 0, .pointer (some ⟨L, 0, none⟩), .pointer (some ⟨eb, σ x.b * 3, none⟩), undef, undef, .pointer (some ⟨cb, 0, none⟩), .func (Fn.func 59) #[] #[.pointer (some ⟨L + 1, 0, none⟩)], .pointer (some ⟨eb, σ x.b * 3, none⟩), undef, undef, undef, undef, undef, undef, undef, undef, undef, undef, undef, undef, undef, undef, undef, undef, undef, undef], defers := [] }) ?assign ?body ?done
  case seq =>
    intro ly J W hbW hJ _ hY h0
    refine callsIn_wide.2 ?_
    have h2 := HH.out.up HBW0.out
    have h3 := h2.up hbW
    exact lknownA_in (NB := L + 2) (X := X) (fun e he => (HH.out.slot he).1) HH.out.wf (by have := HLT.out; omega) (by rw [hX]; have := HNE.out; have := HLT.out; omega) (by have := HNE.out; have := HLT.out; omega) (by rw [hX]; have := HNE.out; have := HLT.out; omega) ly J W (by have := hbW.size; omega) hJ hY h0 ⟨h3.b, h3.x, (hbW.block (L + 1) (by omega)).trans HPB0.out⟩
  case assign =>
    intro ly x W K hK
    gi_wp2
    exact hK
  case body =>
    rintro ly pre x W ⟨⟨v, hv, hrow, _⟩, hB, hWs⟩ hG
    have hc := hv.cell
    obtain ⟨i0, hi, hz0, hz1, hz2⟩ := info_parts intInfo
    obtain ⟨hxm, hpl⟩ := nxt_mem hG
    have htl : (tbs pre).length ≤ 64 := by
      have := tbs_len pre
      have := HN64.out
      omega
    have hb64 := HH.out.wf.b64 x hxm
    obtain ⟨_, q0, _, q2⟩ := (HH.out.up hB).slot hxm
    have HTB := Lib.hid (tbs_snoc pre x)
    have HPRE : Hid ((∃ v, Boxed W L 43 v ∧ W.ownsRow (L + 2) 3 1 v (tbs pre).length (iCells (nats (tbs pre)))) ∧ Below L w W ∧ L + 2 ≤ W.heap.size) := Lib.hid ⟨⟨v, hv, hrow⟩, by rw [← hL]; exact hB, by omega⟩
    have HXL : Hid (X L) := Lib.hid (by rw [hX]; exact .inl rfl)
    obtain ⟨s, hs⟩ : ∃ s, σ x.b = s := ⟨_, rfl⟩
    obtain ⟨xb, hxb⟩ : ∃ y, x.b = y := ⟨_, rfl⟩
    obtain ⟨xd, hxd⟩ : ∃ y, x.d = y := ⟨_, rfl⟩
    have HTQ := Lib.hid (ltable_at xb (by omega))
    rw [hxb, hxd] at HTB
    obtain ⟨x4, hx4⟩ : ∃ y, xb / 4 = y := ⟨_, rfl⟩
    obtain ⟨y4, hy4⟩ : ∃ y, xb % 4 = y := ⟨_, rfl⟩
    rw [hx4, hy4] at HTQ
    rw [hx4] at HTB
    rw [hs] at q0 q2 ⊢
    rw [hxb] at q0
    rw [hxd] at q2
    clear hG hxm hpl hb64 hs hxb hxd hx4 hy4
    obtain ⟨lst, hlst⟩ : ∃ lst, tbs pre = lst := ⟨_, rfl⟩
    rw [hlst] at htl hrow HTB HPRE
    cases xd with
    | false =>
      have HT2 : Hid (tbs (pre ++ [x]) = lst) := Lib.hid (by rw [HTB.out]; simp)
      clear hrow hv hc HTB
      gi_wp2
      exact ⟨KeepsOthers.refl _, by rw [← hX]; exact KeepT.refl _, by rw [HT2.out]; exact HPRE.out⟩
    | true =>
      have HT2 : Hid (tbs (pre ++ [x]) = lst ++ [x4]) := Lib.hid (by rw [HTB.out]; simp)
      clear HTB
      gi_wp2
      refine ⟨trivial, callsIn_inRound ((HTQ.out _).mono ?_)⟩
      rintro r w5 ⟨rfl, rfl⟩
      gi_wp2_with (gi_at_builtin; refine wpListIn_append_own _ rfl _ _ 43 rfl (L + 2) 3 i0 (.int .i64 0) 1 8 Tryz.underlying43 hi hz0 hz1 hz2 rfl (by decide) _ _ _ rfl (hrow.alloc _) ⟨W.heap.size, 0, none⟩ 1 1 [.int .i64 (x4 : Int)] rfl rfl (cell_one_new _ _ _) (by simp [Value.oneCell']) (by unfold maxLen; omega) (by omega) (by simp; omega) ?_; intro v' w1' hown' hgrow _; obtain ⟨g', cap', rfl⟩ := ownsRow_succ hown'; obtain ⟨hv1, hv2, hr2, hk2, hb2⟩ := hv.appended (by decide) (ownsRowLe hrow (base' := w.heap.size) (by omega)) (by omega) (by omega) (ownsRowLe hown' (by omega)) hgrow; have hc1 := hv1.cell; have hf1 := hv1.frozen)
      have hr3 := hown'.kept (grownBy_setCell' w1' L (.slice (some ⟨g', 0, none⟩) (lst.length + 1) cap')) (.inr (hv1.not_row (by decide) hown').symm)
      have hsz := hk2.size
      simp [World.setCell] at hsz
      have hKT : KeepT (L + 2) X W (w1'.setCell ⟨L, 0, none⟩ (.slice (some ⟨g', 0, none⟩) (lst.length + 1) cap')) := by
        have ha : Below W.heap.size W (W.alloc (.cells #[.int .i64 (x4 : Int)] 3)) := (Below.refl _ _).alloc (Nat.le_refl _) _
        refine ((KeepT.of_below (by omega) ha).trans (KeepT.grown (by simp; omega) hgrow (fun g e => ?_))).trans (KeepT.grown (by omega) (grownBy_setCell' w1' L _) (fun g e => ?_))
        · obtain ⟨h1, cs', h2⟩ := OwnK.cellsBlk (OwnK.up hrow ha) e
          exact ⟨.inr h1, _, _, h2, noK_int⟩
        · have e := Option.some.inj e
          subst e
          exact ⟨.inl HXL.out, _, _, hv1, noK_ints⟩
      rw [hX] at hKT
      refine ⟨hKT, ⟨_, hv2, ?_⟩, by have h9 := hB.trans hb2; rw [hL] at h9; exact h9, by omega⟩
      rw [HT2.out, nats_snoc, List.length_append]
      exact hr3
  case done =>
    rintro D ys W hD hys ⟨⟨v, hv, hrow, _⟩, hB, hWs⟩ hK
    subst hys
    have hc := hv.cell
    have hle := CaS.tabsD_le HH.out.wf
    have hlen : (tbs S.E).length ≤ 64 := by
      have := tbs_len S.E
      have := HN64.out
      omega
    have hcp : cpt (tbs S.E) (tbs S.E).length = S.tabL := asc_eq (cpt_lt hle (Nat.le_refl _)) (CaS.tab_lt S) (fun z => by
      rw [cpt_mem (Nat.le_refl _), List.take_length]
      exact CaS.tabsD_mem HH.out.wf z)
    rcases hrow.2 with ⟨rfl, h0⟩ | ⟨g, cap, cur, rfl, hbg, hg, hcn, hcm, hcz, hct⟩
    · have hnil : S.tabL = [] := by
        rw [← hcp, h0]
        rfl
      have HE : Hid (ListIs S.tabL w (.returned (.slice none 0 0)) (W.putObj D (.deferred none))) := Lib.hid (by
        rw [hnil]
        exact ⟨none, 0, rfl, RowF.nil _ _, hB.trans (belowK_b (w := w) (Nat.le_refl _) W D _ _ (by have := HBW0.out.size; omega) hK rfl rfl)⟩)
      clear hle hlen hcp hnil hrow h0
      go_wp2_with fail
      refine (scompact_nil _).mono ?_
      rintro r w5 ⟨rfl, rfl⟩
      go_wp2_with fail
      refine ⟨by simp, .inl ⟨_, _, rfl, run_takeDeferred hK, ?_⟩⟩
      exact ⟨.slice none 0 0, by simp [results, Tryz.results17, go_sem], HE.out⟩
    · obtain ⟨n, hn⟩ : ∃ n, (tbs S.E).length = n := ⟨_, rfl⟩
      rw [hn] at hcn hlen hct hv hc
      have hCP := Lib.hid (scompact_at (w := W) (g := g) (n := n) (cap := cap) (xs := tbs S.E) (cs := cur.toList) hn hlen hcn hcm (by unfold Blk; rw [Array.toArray_toList]; exact hg) (by simpa using hcz) (fun i hi => by
        have e : (iCells (nats (tbs S.E)))[i]? = some (.int .i64 ((tbs S.E)[i] : Int)) := by simp [iCells, nats, hi]
        rw [← hct, List.getElem?_take] at e
        split at e
        · exact e
        · cases e))
      rw [hn] at hcp
      rw [hcp] at hCP
      have htl2 : S.tabL.length ≤ n := by rw [← hcp]; exact cpt_len _ _
      have HE : Hid (∀ w5, (∃ cs', Blk w5 g 3 cs' ∧ ∀ i (h : i < S.tabL.length), cs'[i]? = some (.int .i64 (S.tabL[i] : Int))) → Kept (fun k => k = g) W w5 → w5.heap[D]? = some (.deferred (some [])) ∧ ListIs S.tabL w (.returned (.slice (some ⟨g, 0, none⟩) S.tabL.length cap)) (w5.putObj D (.deferred none))) := Lib.hid (fun w5 hcs hk => by
        obtain ⟨cs', hb5, hc5⟩ := hcs
        have hgD : D ≠ g := fun e => by
          subst e
          rw [hg] at hK
          cases hK
        have hD5 : w5.heap[D]? = some (.deferred (some [])) := (hk.block D (Array.getElem?_eq_some_iff.1 hK).1 hgD).trans hK
        have hbw : Below w.heap.size w w5 := hB.trans (hk.below hB.size (fun k e => by rw [e]; have := HLN.out; omega))
        have hbp : Blk (w5.putObj D (.deferred none)) g 3 cs' := (World.putObj_heap_other (fun e => hgD e.symm)).trans hb5
        refine ⟨hD5, some ⟨g, 0, none⟩, cap, rfl, ⟨some ⟨g, 0, none⟩, cap, by rw [iCells_len, nats_len], ?_, fun _ => ⟨g, 0, rfl, ?_, fun i hi => ?_⟩, fun _ => InF.one (by have := HLN.out; omega), fun e => (by cases e)⟩, hbw.trans (belowK_b (w := w) (Nat.le_refl _) w5 D _ _ (by have := HBW0.out.size; omega) hD5 rfl rfl)⟩
        · rw [iCells_len, nats_len]
          omega
        · simp
          exact lt_of_block hb5
        · rw [iCells_len, nats_len] at hi
          rw [Nat.zero_add, hbp.at (hc5 i hi)]
          simp [iCells, nats])
      clear hle hcp hrow hcn hcm hcz hct hlen hg hbg
      go_wp2_with fail
      refine hCP.out.mono ?_
      rintro r w5 ⟨rfl, hcs, hk⟩
      obtain ⟨hD5, hE5⟩ := HE.out _ hcs hk
      have HE5 := Lib.hid hE5
      clear hcs hk HE hCP hE5
      go_wp2_with fail
      refine ⟨by simp, .inl ⟨_, _, rfl, run_takeDeferred hD5, ?_⟩⟩
      exact ⟨.slice (some ⟨g, 0, none⟩) S.tabL.length cap, by simp [results, Tryz.results17, go_sem], HE5.out⟩
end
end Go.Proofs.YtajccmkdfmpapaaGreatDoor
