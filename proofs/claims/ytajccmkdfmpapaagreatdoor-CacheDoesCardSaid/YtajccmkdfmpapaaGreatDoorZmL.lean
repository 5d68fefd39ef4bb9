/-
  The document's cache in memory: Dirty.
  The document's cache in memory: Clean.
-/
import Derived.Test.YtajccmkdfmpapaaGreatDoorZmG
namespace Go.Proofs.YtajccmkdfmpapaaGreatDoor
open Go.RowKit

theorem dirty_snoc (L : List CE) (t : Int) (i : Nat) (h : i < L.length) : (L.take (i + 1)).filter (CaS.isD t) = if CaS.isD t L[i] = true then (L.take i).filter (CaS.isD t) ++ [L[i]] else (L.take i).filter (CaS.isD t) := by
  rw [List.take_succ_eq_append_getElem h, List.filter_append]
  by_cases e : CaS.isD t L[i] = true
  · rw [if_pos e, List.filter_cons_of_pos e]
    rfl
  · rw [if_neg e, List.filter_cons_of_neg e]
    simp
section
variable {w : World} {Y : Nat → Prop} {rc kb : Nat} {vL vS : Value} {σ : Nat → Nat} {S : CaS}
set_option maxHeartbeats 2000000 in
set_option maxRecDepth 100000 in
theorem cdirty_at (t : Int) (h : RcC Y w rc kb vL vS σ S) : Calls Tryz.prog 15 #[.pointer (some ⟨rc, 0, none⟩), .int .i64 t] w (DirtyIs (S.dirtyL t) w) := by
  obtain ⟨A, c, rfl, hnc, _, _⟩ := h.l.form
  have HR := Lib.hid h.l.rd
  have hl := h.lens.1
  have HG0 := Lib.hid h.cells.1
  have hlt0 := h.lt.1
  have H64 := Lib.hid h.wf.b64
  obtain ⟨n, hn⟩ : ∃ n, S.E.length = n := ⟨_, rfl⟩
  have HN := Lib.hid hn
  rw [hn] at HG0 hl
  have HO0 : Hid (OwnK (w.alloc (.cells #[] 59)) w.heap.size 59 3 (.slice (some ⟨w.heap.size, 0, none⟩) 0 0) 0 []) := Lib.hid (OwnK.new w _ _ 3 0 [] (Nat.le_refl _) rfl (by omega))
  have HB0 : Hid (Below w.heap.size w (w.alloc (.cells #[] 59))) := Lib.hid ((Below.refl _ _).alloc (Nat.le_refl _) _)
  clear h hnc hn
  go_enter Tryz.func15, Tryz.ntmps15
  go_wp2_with fail
  go_loopg [5, 6] n (fun q x y wr => ∃ (i m : Nat), i ≤ n ∧ q = n - i ∧ y = .int .i64 (i : Int) ∧ ((S.E.take i).filter (CaS.isD t)).length = m ∧ m ≤ i ∧ OwnK wr w.heap.size 59 3 x m (cesC ((S.E.take i).filter (CaS.isD t))) ∧ Below w.heap.size w wr)
  case atStart => exact ⟨0, 0, by omega, rfl, rfl, by simp, by omega, by simpa [cesC] using HO0.out, HB0.out⟩
  case round =>
    clear HO0 HB0
    obtain ⟨i, m, hi, hq, rfl, hm, hmi, ho, hb⟩ := hrel
    have HQ := Lib.hid hq
    have HM := Lib.hid hm
    have HO := Lib.hid ho
    have HB := Lib.hid hb
    clear hq hm ho hb
    have g0 := (HB.out.cell (p := ⟨rc, 0, none⟩) hlt0).trans HG0.out
    by_cases hlt : i < n
    · have hll : i < S.E.length := by rw [HN.out]; exact hlt
      obtain ⟨b, o, rfl, hbl, hcell⟩ := HR.out (by rw [cesC_len, HN.out]; omega)
      obtain ⟨p0, p1, p2⟩ := ces_cells hcell i hll
      have c0 := (HB.out.cell (p := ⟨b, o + i * 3, none⟩) hbl).trans p0
      have c1 := (HB.out.cell (p := ⟨b, o + i * 3 + 1, none⟩) hbl).trans p1
      have c2 := (HB.out.cell (p := ⟨b, o + i * 3 + 2, none⟩) hbl).trans p2
      have HT := Lib.hid (dirty_snoc S.E t i hll)
      have h64 := H64.out _ (List.getElem_mem hll)
      obtain ⟨x, hx⟩ : ∃ x, S.E[i].b = x := ⟨_, rfl⟩
      obtain ⟨y, hy⟩ : ∃ y, S.E[i].a = y := ⟨_, rfl⟩
      obtain ⟨d, hd⟩ : ∃ d, S.E[i].d = d := ⟨_, rfl⟩
      have hxs : S.E[i] = ⟨x, y, d⟩ := by rw [← hx, ← hy, ← hd]
      rw [hxs] at c0 c1 c2 HT h64
      have h64 : x < 64 := h64
      clear hcell p0 p1 p2 hx hy hd hxs
      have qd : IntKind.i64.wrap ((x : Int).tdiv 4) = ((x / 4 : Nat) : Int) := by
        rw [Int.tdiv_eq_ediv_of_nonneg (by omega), IntWalk.i64_in _ (by omega)]
        omega
      cases d with
      | false =>
        have HT2 : Hid ((S.E.take (i + 1)).filter (CaS.isD t) = (S.E.take i).filter (CaS.isD t)) := Lib.hid (HT.out.trans (if_neg (by simp [CaS.isD])))
        clear HT
        go_wp2_with fail
        go_roundg (n - (i + 1))
        case rel => exact ⟨i + 1, m, by omega, rfl, by go_num, by rw [HT2.out]; exact HM.out, by omega, by rw [HT2.out]; exact HO.out, HB.out⟩
        case measure => have := HQ.out; omega
      | true =>
        by_cases he : ((x / 4 : Nat) : Int) = t
        · have HT2 : Hid ((S.E.take (i + 1)).filter (CaS.isD t) = (S.E.take i).filter (CaS.isD t) ++ [⟨x, y, true⟩]) := Lib.hid (HT.out.trans (if_pos (by simp [CaS.isD]; omega)))
          have q : (((x / 4 : Nat) : Int) == t) = true := by simpa using he
          obtain ⟨lst, hlst⟩ : ∃ lst, (S.E.take i).filter (CaS.isD t) = lst := ⟨_, rfl⟩
          rw [hlst] at HT2 HM HO
          obtain ⟨w7, hw7⟩ : ∃ w7, wr.alloc (.cells #[.int .i64 (x : Int), .int .u32 (y : Int), .bool true] 59) = w7 := ⟨_, rfl⟩
          have hb7 : Below wr.heap.size wr w7 := by rw [← hw7]; exact (Below.refl _ _).alloc (Nat.le_refl _) _
          have HO7 := Lib.hid (HO.out.up hb7)
          have HB7 := Lib.hid (below_all HB.out hb7)
          have HR7 : Hid (RdV w7 w7.heap.size (some ⟨wr.heap.size, 0, none⟩) [.int .i64 (x : Int), .int .u32 (y : Int), .bool true]) := Lib.hid (fun _ => ⟨wr.heap.size, 0, rfl, by rw [← hw7]; simp, fun i hi => by rw [Nat.zero_add, ← hw7]; exact Blk.cell (T := 59) (heap_alloc_new wr _) i hi⟩)
          clear he HT hlst hb7 HO HB
          go_wp2_with (first
            | (at_builtin; refine appP _ rfl (.tmp 38) (.tmp 46) 42 59 (.agg #[.int .i64 0, .int .u32 0, .bool false]) 3 16 rfl Tryz.underlying42 ceInfo rfl (by decide) (by decide) w.heap.size m 1 1 u5 (cesC lst) [.int .i64 (x : Int), .int .u32 (y : Int), .bool true] (some ⟨wr.heap.size, 0, none⟩) rfl HO7.out rfl rfl HR7.out (fun e => by cases e) (fun u hu => by simp only [List.mem_cons, List.not_mem_nil, or_false] at hu; rcases hu with rfl | rfl | rfl <;> rfl) (by omega) HB7.out.size ?_; intro v8 w8 ho hg; have HO8 : Hid (OwnK w8 w.heap.size 59 3 v8 (m + 1) (cesC ((S.E.take (i + 1)).filter (CaS.isD t)))) := Lib.hid (by rw [HT2.out, cesC_app]; exact ho); have HB8 := Lib.hid (below_grown HB7.out hg (fun e he => HO7.out.own e he)); clear ho hg)
            | fail)
          go_roundg (n - (i + 1))
          case rel => exact ⟨i + 1, m + 1, by omega, rfl, by go_num, by rw [HT2.out, List.length_append, HM.out]; rfl, by omega, HO8.out, HB8.out⟩
          case measure => have := HQ.out; omega
        · have HT2 : Hid ((S.E.take (i + 1)).filter (CaS.isD t) = (S.E.take i).filter (CaS.isD t)) := Lib.hid (HT.out.trans (if_neg (by simp [CaS.isD]; omega)))
          have q : (((x / 4 : Nat) : Int) == t) = false := by simpa using he
          clear he HT
          go_wp2_with fail
          go_roundg (n - (i + 1))
          case rel => exact ⟨i + 1, m, by omega, rfl, by go_num, by rw [HT2.out]; exact HM.out, by omega, by rw [HT2.out]; exact HO.out, HB.out⟩
          case measure => have := HQ.out; omega
    · obtain rfl : i = n := by omega
      have hto : S.E.take i = S.E := List.take_of_length_le (by rw [HN.out]; exact Nat.le_refl _)
      rw [hto] at HM HO
      have HE : Hid (DirtyIs (S.dirtyL t) w (.returned u5) wr) := Lib.hid ⟨_, rfl, by
        show OwnK wr w.heap.size 59 3 u5 (S.E.filter (CaS.isD t)).length (cesC (S.E.filter (CaS.isD t)))
        rw [HM.out]
        exact HO.out, HB.out⟩
      clear HO HM hto
      go_wp2_with fail
      go_ret
      exact HE.out
end
end Go.Proofs.YtajccmkdfmpapaaGreatDoor
namespace Go.Proofs.YtajccmkdfmpapaaGreatDoor
open Go.RowKit

def clE (t : Int) (e : CE) : CE := if CaS.isD t e = true then { e with d := false } else e
def clP (t : Int) (L : List CE) (i : Nat) : List CE := (L.take i).map (clE t) ++ L.drop i
theorem clE_b (t : Int) (e : CE) : (clE t e).b = e.b := by
  unfold clE
  split <;> rfl
theorem clP_len (t : Int) (L : List CE) (i : Nat) (h : i ≤ L.length) : (clP t L i).length = L.length := by
  simp [clP]
  omega
theorem clP_at (t : Int) {L : List CE} {i : Nat} (h : i < L.length) : ∃ h2 : i < (clP t L i).length, (clP t L i)[i] = L[i] := by
  refine ⟨by rw [clP_len t L i (by omega)]; exact h, ?_⟩
  have hl : ((L.take i).map (clE t)).length = i := by simp; omega
  unfold clP
  rw [List.getElem_append_right (by omega), List.getElem_drop]
  exact getElem_congr_idx (by omega)
theorem clP_succ (t : Int) {L : List CE} {i : Nat} (h : i < L.length) : clP t L (i + 1) = (clP t L i).set i (clE t L[i]) := by
  have hl : ((L.take i).map (clE t)).length = i := by simp; omega
  have hd : L.drop i = L[i] :: L.drop (i + 1) := (List.getElem_cons_drop h).symm
  unfold clP
  rw [List.take_succ_eq_append_getElem h, List.map_append, List.set_append_right _ _ (by omega), hl, Nat.sub_self, hd, List.append_assoc]
  rfl
theorem clP_b (t : Int) (L : List CE) (i : Nat) : (clP t L i).map CE.b = L.map CE.b := by
  unfold clP
  rw [List.map_append, List.map_map, show CE.b ∘ clE t = CE.b from funext (clE_b t), ← List.map_append, List.take_append_drop]
section
variable {w : World} {Y : Nat → Prop} {rc kb : Nat} {vL vS : Value} {σ : Nat → Nat} {S : CaS}
set_option maxHeartbeats 2000000 in
set_option maxRecDepth 100000 in
theorem cclean_at (t : Int) (h : RcC Y w rc kb vL vS σ S) : Calls Tryz.prog 35 #[.pointer (some ⟨rc, 0, none⟩), .int .i64 t] w (RcTo Y rc kb vL (.int .i64 ((S.dirtyL t).length : Int)) (S.cleanS t) w) := by
  have HC := Lib.hid h
  obtain ⟨A, c, rfl, hnc, _, _⟩ := h.l.form
  have HL0 := Lib.hid h.l
  have hl := h.lens.1
  have HG0 := Lib.hid h.cells.1
  have HOW := Lib.hid h.own
  have H64 := Lib.hid h.wf.b64
  obtain ⟨n, hn⟩ : ∃ n, S.E.length = n := ⟨_, rfl⟩
  have HN := Lib.hid hn
  rw [hn] at HG0 hl HL0 HOW HC ⊢
  clear h hnc hn
  go_enter Tryz.func35, Tryz.ntmps35
  go_wp2_with fail
  go_loopg [5, 6] n (fun q x y wr => ∃ (i m : Nat), i ≤ n ∧ q = n - i ∧ x = .int .i64 (m : Int) ∧ y = .int .i64 (i : Int) ∧ ((S.E.take i).filter (CaS.isD t)).length = m ∧ m ≤ i ∧ OwnK wr 0 59 3 (.slice A n c) n (cesC (clP t S.E i)) ∧ Kept (fun k => (Value.slice A n c).ownBlock = some k) w wr)
  case atStart => exact ⟨0, 0, by omega, rfl, rfl, rfl, by simp, by omega, by simpa [clP] using HL0.out, Kept.refl _ _⟩
  case round =>
    clear HL0
    obtain ⟨i, m, hi, hq, rfl, rfl, hm, hmi, ho, hk⟩ := hrel
    have HQ := Lib.hid hq
    have HM := Lib.hid hm
    have HO := Lib.hid ho
    have HK := Lib.hid hk
    have g0 := hk.cell HG0.out (fun e => (HOW.out _ e).1 rfl)
    clear hq hm ho hk
    by_cases hlt : i < n
    · have hll : i < S.E.length := by rw [HN.out]; exact hlt
      obtain ⟨hl2, hat⟩ := clP_at t hll
      have HPL := Lib.hid (clP_len t S.E i (by omega))
      obtain ⟨b, o, rfl, hbl, hcell⟩ := HO.out.rd (by rw [cesC_len, HPL.out, HN.out]; omega)
      obtain rfl := HO.out.off
      obtain ⟨c0, c1, c2⟩ := ces_cells hcell i hl2
      have hfz := HO.out.free (i * 3 + 2)
      have HSC := Lib.hid (clP_succ t hll)
      have HS2 := Lib.hid (cesC_set2 hl2 false)
      have HOS := Lib.hid (HO.out.set (i := i * 3 + 2) (.bool false))
      have HT := Lib.hid (dirty_snoc S.E t i hll)
      have h64 := H64.out _ (List.getElem_mem hll)
      rw [hat] at c0 c1 c2 HS2
      obtain ⟨x, hx⟩ : ∃ x, S.E[i].b = x := ⟨_, rfl⟩
      obtain ⟨y, hy⟩ : ∃ y, S.E[i].a = y := ⟨_, rfl⟩
      obtain ⟨d, hd⟩ : ∃ d, S.E[i].d = d := ⟨_, rfl⟩
      have hxs : S.E[i] = ⟨x, y, d⟩ := by rw [← hx, ← hy, ← hd]
      rw [hxs] at c0 c1 c2 HT h64 HSC HS2
      have h64 : x < 64 := h64
      rw [Nat.zero_add] at c0 c1 c2
      have hsame : (clP t S.E i)[i] = ⟨x, y, d⟩ := hat.trans hxs
      clear hcell hx hy hd hxs hat
      have qd : IntKind.i64.wrap ((x : Int).tdiv 4) = ((x / 4 : Nat) : Int) := by
        rw [Int.tdiv_eq_ediv_of_nonneg (by omega), IntWalk.i64_in _ (by omega)]
        omega
      by_cases hD : CaS.isD t ⟨x, y, d⟩ = true
      · obtain ⟨rfl, he⟩ : d = true ∧ ((x / 4 : Nat) : Int) = t := by simpa [CaS.isD] using hD
        have HT2 : Hid ((S.E.take (i + 1)).filter (CaS.isD t) = (S.E.take i).filter (CaS.isD t) ++ [⟨x, y, true⟩]) := Lib.hid (HT.out.trans (if_pos hD))
        have q : (((x / 4 : Nat) : Int) == t) = true := by simpa using he
        have HC2 : Hid (cesC (clP t S.E (i + 1)) = (cesC (clP t S.E i)).set (i * 3 + 2) (.bool false)) := Lib.hid (by
          rw [HSC.out, show clE t ⟨x, y, true⟩ = ⟨x, y, false⟩ from if_pos hD]
          exact HS2.out)
        obtain ⟨w7, hw7⟩ : ∃ w7, wr.setCell ⟨b, i * 3 + 2, none⟩ (.bool false) = w7 := ⟨_, rfl⟩
        have HO7 : Hid (OwnK w7 0 59 3 (.slice (some ⟨b, 0, none⟩) n c) n (cesC (clP t S.E (i + 1)))) := Lib.hid (by rw [HC2.out, ← hw7]; exact HOS.out)
        have HK7 : Hid (Kept (fun k => (Value.slice (some ⟨b, 0, none⟩) n c).ownBlock = some k) w w7) := Lib.hid (by rw [← hw7]; exact HK.out.and ((kept_put wr b (i * 3 + 2) (.bool false)).mono (fun k _ e => by subst e; rfl)))
        clear he hD HT HSC HS2 HOS HC2 HO HK hsame HPL hl2
        go_wp2_with fail
        go_roundg (n - (i + 1))
        case rel => exact ⟨i + 1, m + 1, by omega, rfl, by go_num, by go_num, by rw [HT2.out, List.length_append, HM.out]; rfl, by omega, HO7.out, HK7.out⟩
        case measure => have := HQ.out; omega
      · have HT2 : Hid ((S.E.take (i + 1)).filter (CaS.isD t) = (S.E.take i).filter (CaS.isD t)) := Lib.hid (HT.out.trans (if_neg hD))
        have HP2 : Hid (clP t S.E (i + 1) = clP t S.E i) := Lib.hid (by
          rw [HSC.out, show clE t ⟨x, y, d⟩ = ⟨x, y, d⟩ from if_neg hD, ← hsame]
          exact List.set_getElem_self _)
        cases d with
        | false =>
          clear hD HT HSC HS2 HOS hsame HPL hl2
          go_wp2_with fail
          go_roundg (n - (i + 1))
          case rel => exact ⟨i + 1, m, by omega, rfl, rfl, by go_num, by rw [HT2.out]; exact HM.out, by omega, by rw [HP2.out]; exact HO.out, HK.out⟩
          case measure => have := HQ.out; omega
        | true =>
          have q : (((x / 4 : Nat) : Int) == t) = false := by
            simp [CaS.isD] at hD
            simpa using hD
          clear hD HT HSC HS2 HOS hsame HPL hl2
          go_wp2_with fail
          go_roundg (n - (i + 1))
          case rel => exact ⟨i + 1, m, by omega, rfl, rfl, by go_num, by rw [HT2.out]; exact HM.out, by omega, by rw [HP2.out]; exact HO.out, HK.out⟩
          case measure => have := HQ.out; omega
    · obtain rfl : i = n := by omega
      have hto : S.E.take i = S.E := List.take_of_length_le (by rw [HN.out]; exact Nat.le_refl _)
      have HE : Hid (RcTo Y rc kb (.slice A i c) (.int .i64 ((S.dirtyL t).length : Int)) (S.cleanS t) w (.returned (.int .i64 (m : Int))) wr) := Lib.hid (by
        have hcl : clP t S.E i = (S.cleanS t).E := by
          unfold clP
          rw [hto, List.drop_of_length_le (by rw [HN.out]; exact Nat.le_refl _), List.append_nil]
          rfl
        have hM := HM.out
        rw [hto] at hM
        have hO := HO.out
        rw [hcl] at hO
        have hb2 : (S.cleanS t).E.map CE.b = S.E.map CE.b := by rw [← hcl]; exact clP_b t S.E i
        have hlen : (S.cleanS t).E.length = i := by rw [← HN.out]; simp [CaS.cleanS]
        refine ⟨by rw [← hM]; rfl, ⟨_, vS, σ, HC.out.entries (L := (S.cleanS t).E) HK.out (by rw [hlen]; exact hO) hb2, fun j hj => .inl hj⟩, HK.out.mono (fun k _ e => .inr (.inr e))⟩)
      clear HM HO HK hto HC
      go_wp2_with fail
      go_ret
      exact HE.out
end
end Go.Proofs.YtajccmkdfmpapaaGreatDoor
