/-
  The document's Right, Ids; the law's zones, outside.
-/
import Derived.Test.YtndapbfaaglcgaaVcA
namespace Go.Proofs.Ytndapbfaaglcgaa
open Go.RowKit

namespace VZ
/-- The first i zones may be. -/
def OkK (p : Int) (l : List VZ) (i : Nat) : Prop := Fit p (l.take i) ∧ Apart (l.take i)
theorem OkK.zero (p : Int) (l : List VZ) : OkK p l 0 := ⟨fun z hz => by simp at hz, by simp [Apart]⟩
theorem OkK.next {p : Int} {l : List VZ} {i : Nat} (h : OkK p l i) (hi : i < l.length) (h1 : 0 ≤ l[i].id) (h2 : 0 ≤ l[i].v) (h3 : l[i].v ≤ p) (h4 : ∀ j (hj : j < i), l[j].id ≠ l[i].id) : OkK p l (i + 1) := by
  unfold OkK
  rw [List.take_succ_eq_append_getElem hi]
  refine ⟨fun z hz => ?_, ?_⟩
  · rw [List.mem_append, List.mem_singleton] at hz
    rcases hz with hz | rfl
    · exact h.1 z hz
    · exact ⟨h1, h2, h3⟩
  · unfold Apart
    rw [List.pairwise_append]
    refine ⟨h.2, by simp, fun a ha b hb => ?_⟩
    rw [List.mem_singleton] at hb
    subst hb
    obtain ⟨j, hj, rfl⟩ := List.getElem_of_mem ha
    rw [List.getElem_take]
    exact h4 j (by simp at hj; omega)
theorem OkK.all {p : Int} {l : List VZ} (h : OkK p l l.length) : rightL p l = decide (l.length ≤ 24) := by
  unfold OkK at h
  rw [List.take_length] at h
  unfold rightL
  rw [Bool.eq_iff_iff]
  simp only [decide_eq_true_eq]
  exact ⟨fun x => x.2.2, fun x => ⟨h.1, apart_iff.2 h.2, x⟩⟩
theorem not_fit {p : Int} {l : List VZ} {i : Nat} (hi : i < l.length) (h : ¬ (0 ≤ l[i].id ∧ 0 ≤ l[i].v ∧ l[i].v ≤ p)) : rightL p l = false := by
  unfold rightL
  simp only [decide_eq_false_iff_not]
  exact fun x => h (x.1 _ (List.getElem_mem hi))
theorem not_apart {p : Int} {l : List VZ} {i j : Nat} (hi : i < l.length) (hj : j < i) (h : l[j].id = l[i].id) : rightL p l = false := by
  unfold rightL
  simp only [decide_eq_false_iff_not]
  rintro ⟨_, hn, _⟩
  rw [apart_iff] at hn
  exact List.pairwise_iff_getElem.1 hn j i (by omega) hi hj h
end VZ
set_option maxHeartbeats 2000000 in
set_option maxRecDepth 100000 in
theorem ryright_at {w : World} {A : Option Addr} {n c : Nat} (p : Int) (l : List VZ) (hl : l.length = n) (hr : RdV w w.heap.size A (zsC l)) (hn : n ≤ 1000) : Calls Try.prog 9 #[.int .i64 p, .slice A n c] w (BoolB (VZ.rightL p l) w) := by
  have HR := Lib.hid hr
  have HN := Lib.hid hl
  clear hr hl
  go_enter Try.func9, Try.ntmps9
  go_wp2_with fail
  go_loopg [5] n (fun q y wr => ∃ i : Nat, i ≤ n ∧ q = n - i ∧ y = .int .i64 (i : Int) ∧ VZ.OkK p l i ∧ Below w.heap.size w wr)
  case atStart => exact ⟨0, by omega, rfl, rfl, VZ.OkK.zero p l, Below.refl _ _⟩
  case round =>
    obtain ⟨i, hi, hq, rfl, hok, hb⟩ := hrel
    have HQ := Lib.hid hq
    have HOK := Lib.hid hok
    have HB := Lib.hid hb
    clear hq hok hb
    by_cases hlt : i < n
    · have hil : i < l.length := by rw [HN.out]; exact hlt
      have HIL := Lib.hid hil
      obtain ⟨b, o, rfl, hbl, hcell⟩ := (HR.out.below HB.out) (by rw [zsC_len, HN.out]; omega)
      obtain ⟨c0, c1, _⟩ := z_cells hcell i hil
      obtain ⟨id, hid⟩ : ∃ x, (l[i]'hil).id = x := ⟨_, rfl⟩
      obtain ⟨v, hv⟩ : ∃ x, (l[i]'hil).v = x := ⟨_, rfl⟩
      have HID := Lib.hid hid
      have HV := Lib.hid hv
      have HNF : Hid (¬ (0 ≤ id ∧ 0 ≤ v ∧ v ≤ p) → VZ.rightL p l = false) := Lib.hid (fun h => VZ.not_fit hil (by rw [hid, hv]; exact h))
      rw [hid] at c0
      rw [hv] at c1
      clear hid hv
      by_cases h1 : id < 0
      · have d1 : decide (id < 0) = true := by simpa using h1
        have HE := Lib.hid (HNF.out (by omega))
        clear HNF h1 hcell
        go_wp2_with fail
        go_ret
        exact ⟨ret_bool HE.out.symm, HB.out⟩
      · have d1 : decide (id < 0) = false := by simpa using h1
        by_cases h2 : v < 0
        · have d2 : decide (v < 0) = true := by simpa using h2
          have HE := Lib.hid (HNF.out (by omega))
          clear HNF h1 h2 hcell
          go_wp2_with fail
          go_ret
          exact ⟨ret_bool HE.out.symm, HB.out⟩
        · have d2 : decide (v < 0) = false := by simpa using h2
          by_cases h3 : p < v
          · have d3 : decide (p < v) = true := by simpa using h3
            have HE := Lib.hid (HNF.out (by omega))
            clear HNF h1 h2 h3 hcell
            go_wp2_with fail
            go_ret
            exact ⟨ret_bool HE.out.symm, HB.out⟩
          · have d3 : decide (p < v) = false := by simpa using h3
            have HF1 : Hid (0 ≤ id) := Lib.hid (by omega)
            have HF2 : Hid (0 ≤ v) := Lib.hid (by omega)
            have HF3 : Hid (v ≤ p) := Lib.hid (by omega)
            have HCELL : Hid (∀ u, Below wr.heap.size wr u → ∀ k (hk : k < l.length), u.cell? ⟨b, o + k * 3, none⟩ = some (.int .i64 l[k].id)) := Lib.hid (fun u hu k hk => (hu.cell (p := ⟨b, o + k * 3, none⟩) (Nat.lt_of_lt_of_le hbl HB.out.size)).trans (z_cells hcell k hk).1)
            clear HNF h1 h2 h3 hcell
            go_wp2_with fail
            clear d1 d2 d3
            go_loopg [6] i (fun q y wx => ∃ k : Nat, k ≤ i ∧ q = i - k ∧ y = .int .i64 (k : Int) ∧ (∀ j (_ : j < k) (hj : j < l.length), l[j].id ≠ id) ∧ Below wr.heap.size wr wx)
            case atStart => exact ⟨0, by omega, by omega, rfl, fun j hj _ => by omega, Below.refl _ _⟩
            case round =>
              obtain ⟨k, hk, hg, rfl, hne, hb⟩ := hrel
              have HG := Lib.hid hg
              have HNE := Lib.hid hne
              have HBX := Lib.hid hb
              clear hg hne hb
              by_cases hki : k < i
              · have hkl : k < l.length := by omega
                have ck := HCELL.out _ HBX.out k hkl
                have ci := HCELL.out _ HBX.out i hil
                rw [HID.out] at ci
                have HNA : Hid (l[k].id = id → VZ.rightL p l = false) := Lib.hid (fun e => VZ.not_apart HIL.out hki (by rw [e, HID.out]))
                have HNX : Hid (l[k].id ≠ id → ∀ j (_ : j < k + 1) (hj : j < l.length), l[j].id ≠ id) := Lib.hid (fun e j hj hj2 => by
                  by_cases ejk : j = k
                  · subst ejk
                    exact e
                  · exact HNE.out j (by omega) hj2)
                obtain ⟨x, hx⟩ : ∃ x, l[k].id = x := ⟨_, rfl⟩
                rw [hx] at ck HNA HNX
                have hkn : k < n := by omega
                clear hx hkl
                by_cases he : x = id
                · have HE := Lib.hid (HNA.out he)
                  have q : (x == id) = true := by simpa using he
                  clear he HNA HNX
                  go_wp2_with fail
                  go_region
                  go_wp2_with fail
                  go_ret
                  exact ⟨ret_bool HE.out.symm, (below_all HB.out HBX.out).drew⟩
                · have HE := Lib.hid (HNX.out he)
                  have q : (x == id) = false := by simpa using he
                  clear he HNA HNX
                  go_wp2_with fail
                  go_region
                  go_wp2_with fail
                  go_roundg (i - (k + 1))
                  case rel => exact ⟨k + 1, by omega, rfl, by go_num, HE.out, HBX.out.drew⟩
                  case measure => have := HG.out; omega
              · obtain rfl : k = i := by omega
                have HE := Lib.hid (HOK.out.next HIL.out (by rw [HID.out]; exact HF1.out) (by rw [HV.out]; exact HF2.out) (by rw [HV.out]; exact HF3.out) (fun j hj => by rw [HID.out]; exact HNE.out j hj (by have := HIL.out; omega)))
                go_wp2_with fail
                go_roundg (n - (k + 1))
                case rel => exact ⟨k + 1, by omega, rfl, by go_num, HE.out, below_all HB.out HBX.out⟩
                case measure => have := HQ.out; omega
    · obtain rfl : i = n := by omega
      have HE : Hid (VZ.rightL p l = decide ((i : Int) ≤ 24)) := Lib.hid (by
        have := HOK.out
        rw [← HN.out] at this
        rw [VZ.OkK.all this, HN.out]
        rw [Bool.eq_iff_iff]
        simp only [decide_eq_true_eq]
        omega)
      go_wp2_with fail
      go_ret
      exact ⟨ret_bool (by rw [HE.out]), HB.out⟩
set_option maxHeartbeats 2000000 in
set_option maxRecDepth 100000 in
theorem vczones_at {w : World} {A : Option Addr} {n c : Nat} (l : List VZ) (hl : l.length = n) (hr : RdV w w.heap.size A (zsC l)) (hn : n ≤ 1000) : Calls Try.prog 10 #[.slice A n c] w (ZsIs 42 l w) := by
  have HR := Lib.hid hr
  have HN := Lib.hid hl
  have HO0 : Hid (OwnK (w.alloc (.cells #[] 42)) w.heap.size 42 3 (.slice (some ⟨w.heap.size, 0, none⟩) 0 0) 0 []) := Lib.hid (OwnK.new w _ _ 3 0 [] (Nat.le_refl _) rfl (by omega))
  have HB0 : Hid (Below w.heap.size w (w.alloc (.cells #[] 42))) := Lib.hid ((Below.refl _ _).alloc (Nat.le_refl _) _)
  clear hr hl
  go_enter Try.func10, Try.ntmps10
  go_wp2_with fail
  go_loopg [3, 9] n (fun q x y wr => ∃ i : Nat, i ≤ n ∧ q = n - i ∧ y = .int .i64 (i : Int) ∧ OwnK wr w.heap.size 42 3 x i (zsC (l.take i)) ∧ Below w.heap.size w wr)
  case atStart => exact ⟨0, by omega, rfl, rfl, by simpa [zsC] using HO0.out, HB0.out⟩
  case round =>
    clear HO0 HB0
    obtain ⟨i, hi, hq, rfl, ho, hb⟩ := hrel
    have HQ := Lib.hid hq
    have HO := Lib.hid ho
    have HB := Lib.hid hb
    clear hq ho hb
    by_cases hlt : i < n
    · have hll : i < l.length := by rw [HN.out]; exact hlt
      obtain ⟨b, o, rfl, _, hcell⟩ := (HR.out.below HB.out) (by rw [zsC_len, HN.out]; omega)
      obtain ⟨c0, c1, c2⟩ := z_cells hcell i hll
      have HT : Hid (l.take (i + 1) = l.take i ++ [l[i]]) := Lib.hid (List.take_succ_eq_append_getElem hll)
      obtain ⟨x, hx⟩ : ∃ x, l[i].id = x := ⟨_, rfl⟩
      obtain ⟨y, hy⟩ : ∃ y, l[i].v = y := ⟨_, rfl⟩
      obtain ⟨d, hd⟩ : ∃ d, l[i].age = d := ⟨_, rfl⟩
      have hxs : l[i] = ⟨x, y, d⟩ := by rw [← hx, ← hy, ← hd]
      rw [hxs] at c0 c1 c2 HT
      obtain ⟨lst, hlst⟩ : ∃ lst, l.take i = lst := ⟨_, rfl⟩
      rw [hlst] at HT HO
      obtain ⟨w6, hw6⟩ : ∃ w6, wr.alloc (.cells #[.int .i64 x, .int .i64 y, .int .u32 (d : Int)] 38) = w6 := ⟨_, rfl⟩
      have hb6 : Below wr.heap.size wr w6 := by rw [← hw6]; exact (Below.refl _ _).alloc (Nat.le_refl _) _
      have hx6 : Blk w6 wr.heap.size 38 [.int .i64 x, .int .i64 y, .int .u32 (d : Int)] := by rw [← hw6]; exact heap_alloc_new wr _
      have y0 := hx6.cell 0 (by simp)
      have y1 := hx6.cell 1 (by simp)
      have y2 := hx6.cell 2 (by simp)
      obtain ⟨a, ha⟩ : ∃ a, wr.heap.size = a := ⟨_, rfl⟩
      rw [ha] at y0 y1 y2
      obtain ⟨w7, hw7⟩ : ∃ w7, w6.alloc (.cells #[.int .i64 x, .int .i64 y, .int .u32 (d : Int)] 42) = w7 := ⟨_, rfl⟩
      have hb7 : Below w6.heap.size w6 w7 := by rw [← hw7]; exact (Below.refl _ _).alloc (Nat.le_refl _) _
      have HO7 := Lib.hid ((HO.out.up hb6).up hb7)
      have HB7 := Lib.hid (below_all (below_all HB.out hb6) hb7)
      have HR7 : Hid (RdV w7 w7.heap.size (some ⟨w6.heap.size, 0, none⟩) [.int .i64 x, .int .i64 y, .int .u32 (d : Int)]) := Lib.hid (by rw [← hw7]; exact new_rd w6 42 [.int .i64 x, .int .i64 y, .int .u32 (d : Int)])
      clear hcell hx hy hd hxs hlst hb6 hx6 hb7 HO HB
      go_wp2_with (first
        | (at_builtin; go_loud (refine appP _ rfl (.tmp 13) (.tmp 15) 26 42 (.agg #[.int .i64 0, .int .i64 0, .int .u32 0]) 3 24 rfl Try.underlying26 ryInfo rfl (by decide) (by decide) w.heap.size i 1 1 u3 (zsC lst) [.int .i64 x, .int .i64 y, .int .u32 (d : Int)] (some ⟨w6.heap.size, 0, none⟩) rfl HO7.out rfl rfl HR7.out (fun e => by cases e) (fun u hu => by simp only [List.mem_cons, List.not_mem_nil, or_false] at hu; rcases hu with rfl | rfl | rfl <;> rfl) (by omega) HB7.out.size ?_; intro v8 w8 ho hg; have HO8 : Hid (OwnK w8 w.heap.size 42 3 v8 (i + 1) (zsC (l.take (i + 1)))) := Lib.hid (by rw [HT.out, zsC_app]; exact ho); have HB8 := Lib.hid (below_grown HB7.out hg (fun e he => HO7.out.own e he)); clear ho hg))
        | fail)
      go_roundg (n - (i + 1))
      case rel => exact ⟨i + 1, by omega, rfl, by go_num, HO8.out, HB8.out⟩
      case measure => have := HQ.out; omega
    · obtain rfl : i = n := by omega
      have hto : l.take i = l := List.take_of_length_le (by rw [HN.out]; exact Nat.le_refl _)
      rw [hto] at HO
      have HE : Hid (ZsIs 42 l w (.returned u3) wr) := Lib.hid ⟨_, rfl, by rw [HN.out]; exact HO.out, HB.out⟩
      clear HO hto
      go_wp2_with fail
      go_ret
      exact HE.out
set_option maxHeartbeats 2000000 in
set_option maxRecDepth 100000 in
theorem ryids_at {w : World} {A : Option Addr} {n c : Nat} (l : List VZ) (hl : l.length = n) (hr : RdV w w.heap.size A (zsC l)) (hn : n ≤ 1000) : Calls Try.prog 14 #[.slice A n c] w (IdsIs (VZ.ids l) w) := by
  have HR := Lib.hid hr
  have HN := Lib.hid hl
  have HO0 : Hid (OwnK (w.alloc (.cells #[] 3)) w.heap.size 3 1 (.slice (some ⟨w.heap.size, 0, none⟩) 0 0) 0 []) := Lib.hid (OwnK.new w _ _ 1 0 [] (Nat.le_refl _) rfl (by omega))
  have HB0 : Hid (Below w.heap.size w (w.alloc (.cells #[] 3))) := Lib.hid ((Below.refl _ _).alloc (Nat.le_refl _) _)
  clear hr hl
  go_enter Try.func14, Try.ntmps14
  go_wp2_with fail
  go_loopg [3, 4] n (fun q x y wr => ∃ i : Nat, i ≤ n ∧ q = n - i ∧ y = .int .i64 (i : Int) ∧ OwnK wr w.heap.size 3 1 x i (iCells (VZ.ids (l.take i))) ∧ Below w.heap.size w wr)
  case atStart => exact ⟨0, by omega, rfl, rfl, by simpa [VZ.ids, iCells] using HO0.out, HB0.out⟩
  case round =>
    clear HO0 HB0
    obtain ⟨i, hi, hq, rfl, ho, hb⟩ := hrel
    have HQ := Lib.hid hq
    have HO := Lib.hid ho
    have HB := Lib.hid hb
    clear hq ho hb
    by_cases hlt : i < n
    · have hll : i < l.length := by rw [HN.out]; exact hlt
      obtain ⟨b, o, rfl, _, hcell⟩ := (HR.out.below HB.out) (by rw [zsC_len, HN.out]; omega)
      obtain ⟨c0, _, _⟩ := z_cells hcell i hll
      have HT : Hid (iCells (VZ.ids (l.take (i + 1))) = iCells (VZ.ids (l.take i)) ++ [.int .i64 l[i].id]) := Lib.hid (by rw [List.take_succ_eq_append_getElem hll]; unfold VZ.ids iCells; rw [List.map_append, List.map_append]; rfl)
      obtain ⟨x, hx⟩ : ∃ x, l[i].id = x := ⟨_, rfl⟩
      rw [hx] at c0 HT
      obtain ⟨cs, hcs⟩ : ∃ cs, iCells (VZ.ids (l.take i)) = cs := ⟨_, rfl⟩
      rw [hcs] at HT HO
      obtain ⟨w7, hw7⟩ : ∃ w7, wr.alloc (.cells #[.int .i64 x] 3) = w7 := ⟨_, rfl⟩
      have hb7 : Below wr.heap.size wr w7 := by rw [← hw7]; exact (Below.refl _ _).alloc (Nat.le_refl _) _
      have HO7 := Lib.hid (HO.out.up hb7)
      have HB7 := Lib.hid (below_all HB.out hb7)
      have HR7 : Hid (RdV w7 w7.heap.size (some ⟨wr.heap.size, 0, none⟩) [.int .i64 x]) := Lib.hid (by rw [← hw7]; exact new_rd wr 3 [.int .i64 x])
      clear hcell hx hcs hb7 HO HB
      go_wp2_with (first
        | (at_builtin; go_loud (refine appP _ rfl (.tmp 12) (.tmp 18) 29 3 (.int .i64 0) 1 8 rfl Try.underlying29 intInfo rfl (by decide) (by decide) w.heap.size i 1 1 u3 cs [.int .i64 x] (some ⟨wr.heap.size, 0, none⟩) rfl HO7.out rfl rfl HR7.out (fun e => by cases e) (fun u hu => by simp only [List.mem_cons, List.not_mem_nil, or_false] at hu; rcases hu with rfl; rfl) (by omega) HB7.out.size ?_; intro v8 w8 ho hg; have HO8 : Hid (OwnK w8 w.heap.size 3 1 v8 (i + 1) (iCells (VZ.ids (l.take (i + 1))))) := Lib.hid (by rw [HT.out]; exact ho); have HB8 := Lib.hid (below_grown HB7.out hg (fun e he => HO7.out.own e he)); clear ho hg))
        | fail)
      go_roundg (n - (i + 1))
      case rel => exact ⟨i + 1, by omega, rfl, by go_num, HO8.out, HB8.out⟩
      case measure => have := HQ.out; omega
    · obtain rfl : i = n := by omega
      have hto : l.take i = l := List.take_of_length_le (by rw [HN.out]; exact Nat.le_refl _)
      rw [hto] at HO
      have HE : Hid (IdsIs (VZ.ids l) w (.returned u3) wr) := Lib.hid ⟨_, rfl, by rw [show (VZ.ids l).length = i by simp [VZ.ids, HN.out]]; exact HO.out, HB.out⟩
      clear HO hto
      go_wp2_with fail
      go_ret
      exact HE.out
/-- Are zones, or pages, outside? -/
def outB (p : Int) (l : List VZ) : Bool := !(decide (1 ≤ p ∧ p ≤ 16 ∧ l.length ≤ 60) && VZ.rightL p l)
theorem outB_no {p : Int} {l : List VZ} (h : outB p l = false) : 1 ≤ p ∧ p ≤ 16 ∧ VZ.Fit p l ∧ VZ.Apart l ∧ l.length ≤ 24 := by
  unfold outB at h
  simp only [Bool.not_eq_false', Bool.and_eq_true, decide_eq_true_eq] at h
  obtain ⟨⟨h1, h2, _⟩, h3⟩ := h
  obtain ⟨g1, g2, g3⟩ := VZ.right_iff.1 h3
  exact ⟨h1, h2, g1, VZ.apart_iff.1 g2, g3⟩
set_option maxHeartbeats 1000000 in
theorem vcoutside_at {w : World} {A : Option Addr} {n c : Nat} (p : Int) (l : List VZ) (hl : l.length = n) (hr : RdV w w.heap.size A (zsC l)) : Calls Try.prog 11 #[.int .i64 p, .slice A n c] w (BoolB (outB p l) w) := by
  have HR := Lib.hid hr
  have HN := Lib.hid hl
  have HO : Hid (outB p l = !(decide (1 ≤ p ∧ p ≤ 16 ∧ n ≤ 60) && VZ.rightL p l)) := Lib.hid (by rw [← hl]; rfl)
  clear hr hl
  by_cases h1 : p < 1
  · have d1 : decide (p < 1) = true := by simpa using h1
    have HE : Hid (outB p l = true) := Lib.hid (by rw [HO.out, decide_eq_false (by omega)]; rfl)
    clear h1
    go_enter Try.func11, Try.ntmps11
    go_wp2_with fail
    go_ret
    exact ⟨ret_bool HE.out.symm, Below.refl _ _⟩
  · have d1 : decide (p < 1) = false := by simpa using h1
    by_cases h2 : 16 < p
    · have d2 : decide (16 < p) = true := by simpa using h2
      have HE : Hid (outB p l = true) := Lib.hid (by rw [HO.out, decide_eq_false (by omega)]; rfl)
      clear h1 h2
      go_enter Try.func11, Try.ntmps11
      go_wp2_with fail
      go_ret
      exact ⟨ret_bool HE.out.symm, Below.refl _ _⟩
    · have d2 : decide (16 < p) = false := by simpa using h2
      by_cases h3 : 60 < n
      · have HE : Hid (outB p l = true) := Lib.hid (by rw [HO.out, decide_eq_false (by omega)]; rfl)
        clear h1 h2
        go_enter Try.func11, Try.ntmps11
        go_wp2_with fail
        go_ret
        exact ⟨ret_bool HE.out.symm, Below.refl _ _⟩
      · have d3 : decide ((60 : Int) < (n : Int)) = false := by simp; omega
        have HE : Hid (outB p l = !VZ.rightL p l) := Lib.hid (by rw [HO.out, decide_eq_true (by omega), Bool.true_and])
        clear h1 h2
        go_enter Try.func11, Try.ntmps11
        go_wp2_with fail
        refine (vczones_at l HN.out HR.out (by omega)).mono ?_
        rintro r w2 ⟨v, rfl, ho, hb⟩
        rw [HN.out] at ho
        obtain ⟨A2, c2, rfl, _, _, _⟩ := ho.form
        have HR2 := Lib.hid ho.rd
        have HB2 := Lib.hid hb
        clear ho hb
        go_wp2_with fail
        refine (ryright_at p l HN.out HR2.out (by omega)).mono ?_
        rintro r w3 ⟨rfl, hb⟩
        have HB3 := Lib.hid (below_all HB2.out hb)
        clear hb
        generalize VZ.rightL p l = rl at *
        go_wp2_with fail
        go_ret
        exact ⟨ret_bool HE.out.symm, HB3.out⟩
end Go.Proofs.Ytndapbfaaglcgaa
