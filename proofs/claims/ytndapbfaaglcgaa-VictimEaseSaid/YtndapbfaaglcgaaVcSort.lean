/-
  slices.SortFunc of a row of zones of the call's own, by whatever closure that tells the document's ahead: the row then holds sortZ. Upon the library's contract at structs.
-/
import Derived.Shelf.SlSortCmp.WholeK
import Derived.Test.YtndapbfaaglcgaaVcA
namespace Go.Proofs.Ytndapbfaaglcgaa
open Go.Shelf Go.RowKit
open Go.Sort (SWO PermIn SortedIn HoldsK Holds putRow putRowK mapBlock putCells flatK onCells)

/-- Zones that may be. -/
def ZOk (p : Int) (z : VZ) : Prop := 0 ≤ z.id ∧ 0 ≤ z.v ∧ (z.v ≤ p ∨ z.v = 0) ∧ z.age < 4294967296
abbrev ZS (p : Int) := { z : VZ // ZOk p z }
instance (p : Int) : Inhabited (ZS p) := ⟨⟨⟨0, 0, 0⟩, by unfold ZOk; simp⟩⟩

theorem ahead_irr (pol p : Int) (a : VZ) : VZ.ahead pol p a a = false := by
  cases h : VZ.ahead pol p a a with
  | false => rfl
  | true => rw [VZ.ahead_asym h] at h; cases h
theorem ahead_ntrans {pol p : Int} {a b c : VZ} (ha : 0 ≤ a.v) (hb : 0 ≤ b.v) (hc : 0 ≤ c.v) (h1 : VZ.ahead pol p a b = false) (h2 : VZ.ahead pol p b c = false) : VZ.ahead pol p a c = false := by
  unfold VZ.ahead at *
  by_cases h0 : pol = 0
  · rw [if_pos h0] at *
    by_cases e : a.v = b.v
    · rw [if_pos e] at h1
      by_cases e2 : b.v = c.v
      · rw [if_pos e2] at h2
        rw [if_pos (e.trans e2)]
        simp at *
        omega
      · rw [if_neg e2] at h2
        rw [if_neg (by omega)]
        simp at *
        omega
    · rw [if_neg e] at h1
      by_cases e2 : b.v = c.v
      · rw [if_pos e2] at h2
        rw [if_neg (by omega)]
        simp at *
        omega
      · rw [if_neg e2] at h2
        simp at h1 h2
        rw [if_neg (by omega)]
        simp
        omega
  · rw [if_neg h0] at *
    have le1 : VZ.prod p a b ≤ VZ.prod p b a := by
      by_cases e : VZ.prod p a b = VZ.prod p b a
      · omega
      · rw [if_neg e] at h1
        simp at h1
        omega
    have le2 : VZ.prod p b c ≤ VZ.prod p c b := by
      by_cases e : VZ.prod p b c = VZ.prod p c b
      · omega
      · rw [if_neg e] at h2
        simp at h2
        omega
    have le3 := VZ.prod_trans hc hb ha le2 le1
    by_cases e : VZ.prod p a c = VZ.prod p c a
    · rw [if_pos e]
      have k1 := VZ.prod_trans hb ha hc le1 (by omega : VZ.prod p c a ≤ VZ.prod p a c)
      have k2 := VZ.prod_trans ha hc hb (by omega : VZ.prod p c a ≤ VZ.prod p a c) le2
      rw [if_pos (by omega)] at h1
      rw [if_pos (by omega)] at h2
      simp at *
      omega
    · rw [if_neg e]
      simp
      omega

section
variable {p : Int}
/-- Zones as elements of the library's rows. -/
def encZ (x : ZS p) : List Value := zC x.1
theorem flat_zs (d : Array (ZS p)) : (flatK encZ 3 d).toList = zsC (d.toList.map Subtype.val) := by
  have hl : (zsC (d.toList.map Subtype.val)).length = d.size * 3 := by rw [zsC_len]; simp
  apply List.ext_getElem?
  intro t
  by_cases ht : t < d.size * 3
  · have hi : t / 3 < (d.toList.map Subtype.val).length := by simp; omega
    have hg := fk_get zC 3 (fun _ => rfl) (d.toList.map Subtype.val) (t / 3) (t % 3) hi (by omega)
    rw [show t / 3 * 3 + t % 3 = t by omega] at hg
    show _ = (zsC (d.toList.map Subtype.val))[t]?
    unfold zsC
    rw [hg]
    have hs : t < (flatK encZ 3 d).size := by simp; omega
    rw [Array.getElem?_toList, Array.getElem?_eq_getElem hs]
    have := Go.Sort.get_flatK (encZ (p := p)) 3 d t ht
    rw [getElem!_pos _ t hs, getElem!_pos d (t / 3) (by omega)] at this
    rw [this]
    have e : (d.toList.map Subtype.val)[t / 3] = (d[t / 3]'(by omega)).1 := by simp
    rw [e]
    generalize d[t / 3]'(by omega) = z
    have h3 : t % 3 < 3 := by omega
    generalize t % 3 = u at h3
    unfold encZ zC
    match u, h3 with
    | 0, _ => rfl
    | 1, _ => rfl
    | 2, _ => rfl
  · rw [List.getElem?_eq_none (by simp; omega), List.getElem?_eq_none (by omega)]
theorem take_put (cur : Array Value) (F : Array Value) (h : F.size ≤ cur.size) : (putCells id 0 F cur).toList.take F.size = F.toList := by
  apply List.ext_getElem?
  intro j
  by_cases hj : j < F.size
  · rw [List.getElem?_take_of_lt hj, Array.getElem?_toList]
    simp [putCells, hj, show j < cur.size by omega]
  · rw [List.getElem?_take_eq_none (by omega), List.getElem?_eq_none (by simp; omega)]
end

/-- The library's sort of a row of zones of the call's own. -/
theorem sortFunc_at {P : Program} {ρ : Ren} (L : SlLaysF0.n6 P ρ) (aE : ∀ w, (isAgg (ρ.t 24)).run P w = .ok true w) (zE : ∀ w, (Go.sizeOf (ρ.t 24)).run P w = .ok 3 w) {pol p : Int} {l : List VZ} {w : World} {base g n c f : Nat} {T : TypeId} {cb : Array Value} {cf : VZ → VZ → Int}
    (eg : ∀ args w, (callFunc f args).run P w = .ok (.enter f args) w)
    (hcf : ∀ a b, ZOk p a → ZOk p b → decide (cf a b < 0) = VZ.ahead pol p a b)
    (hcmp : ∀ W a b, Kept (fun k => k = g) w W → ZOk p a → ZOk p b → Calls P f (#[zV a, zV b] ++ cb) W fun e w' => e = .returned (.int .i64 (cf a b)) ∧ ∃ q os, w' = Go.Sort.grow (W.drewN q) os)
    (hf : VZ.Fit p l) (ha : VZ.Apart l) (hage : AgeOk l) (hl : l.length = n) (hn : n ≤ 100000)
    (ho : OwnK w base T 3 (.slice (some ⟨g, 0, none⟩) n c) n (zsC l)) :
    Calls P (ρ.f 6) #[.slice (some ⟨g, 0, none⟩) n c, .func (.func f) #[] cb] w fun e w' => e = .returned (.tuple #[]) ∧ OwnK w' base T 3 (.slice (some ⟨g, 0, none⟩) n c) n (zsC (VZ.sortZ pol p l)) ∧ Kept (fun k => k = g) w w' := by
  have hok : ∀ z ∈ l, ZOk p z := fun z hz => ⟨(hf z hz).1, (hf z hz).2.1, .inl (hf z hz).2.2, hage z hz⟩
  obtain ⟨d, hd⟩ : ∃ d : Array (ZS p), d.toList.map Subtype.val = l := ⟨(l.attachWith (ZOk p) hok).toArray, by simp⟩
  have hds : d.size = n := by rw [← hl, ← hd]; simp
  obtain ⟨hlen, hcase⟩ := ho
  rcases hcase with ⟨e, _⟩ | ⟨g', cap, cur, hv, hb, hg, hc, hm, hs, ht⟩
  · cases e
  injection hv with e1 e2 e3
  have e1 := Option.some.inj e1
  injection e1 with e1
  subst e1
  subst e3
  have hgl : g < w.heap.size := lt_of_block hg
  have hH : HoldsK (encZ (p := p)) 3 w g 0 d := by
    intro j hj
    rw [Go.Sort.size_flatK] at hj
    refine ⟨?_, frozen_of_row w g (0 + j) cur T hg⟩
    rw [cell_of_row w g (0 + j) cur T (0, 0) hg, Nat.zero_add]
    have h1 : (flatK (encZ (p := p)) 3 d).toList[j]? = (cur.toList.take (n * 3))[j]? := by rw [flat_zs, hd, ht]
    rw [List.getElem?_take_of_lt (by omega), Array.getElem?_toList, Array.getElem?_toList] at h1
    rw [← h1, getElem!_pos _ j (by rw [Go.Sort.size_flatK]; exact hj), Array.getElem?_eq_getElem (by rw [Go.Sort.size_flatK]; exact hj)]
    rfl
  have hkept : ∀ (m : Nat) (dk : Array (ZS p)) (os : Array Obj), Kept (fun k => k = g) w (sortWorldK encZ 3 w g 0 m dk os) := by
    intro m dk os
    refine ⟨rfl, rfl, rfl, size_sortWorldK_c _ _ _ _ _ _ _ _, fun k hk hne => ?_⟩
    have hne' : ¬ g = k := fun e => hne e.symm
    unfold sortWorldK
    rw [Go.Sort.heap_grow_old _ _ (by rw [Go.Sort.size_putRowK]; exact hk)]
    simp [putRowK, putRow, mapBlock, Go.Sort.ahead, Array.getElem?_modify, hne']
  have hO : SWO (ltOf fun x y : ZS p => cf x.1 y.1) := by
    have e : ∀ x y : ZS p, (ltOf fun x y : ZS p => cf x.1 y.1) x y = VZ.ahead pol p x.1 y.1 := fun x y => hcf x.1 y.1 x.2 y.2
    refine ⟨fun x => ?_, fun x y z h1 h2 => ?_, fun x y z h1 h2 => ?_⟩
    · rw [e]
      exact ahead_irr _ _ _
    · rw [e] at *
      exact VZ.ahead_trans x.2.2.1 y.2.2.1 z.2.2.1 h1 h2
    · rw [e] at *
      exact ahead_ntrans x.2.2.1 y.2.2.1 z.2.2.1 h1 h2
  have hC : CmpLays P f cb (encZ (p := p)) 3 (fun x y => cf x.1 y.1) g 0 d.size w := fun m os dk _ x y => hcmp _ x.1 y.1 (hkept m dk os) x.2 y.2
  have hcon := AnyQ.slices_SortFunc L 3 aE zE (encZ (p := p)) (fun _ => rfl) (fun x v hv => by simp [encZ, zC] at hv; rcases hv with rfl | rfl | rfl <;> rfl) (fun x y => cf x.1 y.1) hO f cb g 0 c d w eg hC hH hgl (by rw [hds]; omega)
  rw [hds] at hcon
  refine hcon.mono fun e w' ⟨he, d', m, os, hp, hsd, hw⟩ => ⟨he, ?_, hw ▸ hkept m d' os⟩
  have hsz : d'.size = d.size := hp.1
  have hperm : d'.toList.Perm d.toList := by
    have := hp.2.2
    rw [← hds] at this
    rw [Array.extract_size] at this
    rw [← hsz, Array.extract_size] at this
    exact this
  have hpl : (d'.toList.map Subtype.val).Perm l := by
    have := hperm.map Subtype.val
    rw [hd] at this
    exact this
  have hap : VZ.Apart (d'.toList.map Subtype.val) := ha.perm hpl.symm
  have hord : VZ.InOrd pol p (d'.toList.map Subtype.val) := by
    unfold VZ.InOrd
    rw [List.pairwise_iff_getElem]
    intro i j hi hj hij
    have hi' : i < d'.size := by simpa using hi
    have hj' : j < d'.size := by simpa using hj
    have h1 := hsd i j (Nat.zero_le _) hij (by omega)
    rw [getElem!_pos d' i hi', getElem!_pos d' j hj'] at h1
    have h2 : VZ.ahead pol p d'[j].1 d'[i].1 = false := by
      rw [← hcf _ _ d'[j].2 d'[i].2]
      exact h1
    unfold VZ.Apart at hap
    rw [List.pairwise_iff_getElem] at hap
    have h3 := hap i j hi hj hij
    rw [List.getElem_map, List.getElem_map, Array.getElem_toList, Array.getElem_toList] at h3 ⊢
    exact (VZ.ahead_or h3).elim id fun h => by rw [h2] at h; cases h
  have hsort : d'.toList.map Subtype.val = VZ.sortZ pol p l := VZ.sort_is hf ha hord hpl
  have hflat : (flatK (encZ (p := p)) 3 d').toList = zsC (VZ.sortZ pol p l) := by rw [flat_zs, hsort]
  have hfs : (flatK (encZ (p := p)) 3 d').size = n * 3 := by rw [Go.Sort.size_flatK]; omega
  have hblk : w'.heap[g]? = some (.cells (putCells id 0 (flatK (encZ (p := p)) 3 d') cur) T (0, 0)) := by
    rw [hw]
    unfold sortWorldK
    rw [Go.Sort.heap_grow_old _ _ (by rw [Go.Sort.size_putRowK]; exact hgl)]
    simp [putRowK, putRow, mapBlock, Go.Sort.ahead, Array.getElem?_modify, hg, onCells]
  refine ⟨by rw [zsC_len, VZ.sort_perm.length_eq, hl], .inr ⟨g, c, _, rfl, hb, hblk, hc, hm, by simp [putCells, hs], ?_⟩⟩
  rw [← hfs, take_put _ _ (by rw [hfs, hs]; omega), hflat]
end Go.Proofs.Ytndapbfaaglcgaa
