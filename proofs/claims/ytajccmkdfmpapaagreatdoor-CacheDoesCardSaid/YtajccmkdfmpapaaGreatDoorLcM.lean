/-
  slices.Compact of a row of numbers.
-/
import Derived.Test.YtajccmkdfmpapaaGreatDoorZmC
import Derived.Test.YtajccmkdfmpapaaGreatDoorZmH
import Derived.Lib.SliceRun
namespace Go.Proofs.YtajccmkdfmpapaaGreatDoor
open Go.RowKit

theorem cpt_take {xs : List Nat} : ∀ {k : Nat}, k ≤ xs.length → (∀ j, 0 < j → j < k → xs[j]? ≠ xs[j - 1]?) → cpt xs k = xs.take k
  | 0, _, _ => by simp [cpt]
  | k + 1, h, hn => by
    have ih := cpt_take (k := k) (by omega) (fun j h1 h2 => hn j h1 (by omega))
    show (if 0 < k ∧ xs[k]? = xs[k - 1]? then cpt xs k else cpt xs k ++ xs[k]?.toList) = _
    rw [if_neg (fun hc => hn k hc.1 (by omega) hc.2), ih, List.take_add_one]
theorem cpt_same {xs : List Nat} {k : Nat} (h0 : 0 < k) (h : xs[k]? = xs[k - 1]?) : cpt xs (k + 1) = cpt xs k := if_pos ⟨h0, h⟩
theorem cpt_next {xs : List Nat} {k : Nat} (hk : k < xs.length) (h : xs[k]? ≠ xs[k - 1]?) : cpt xs (k + 1) = cpt xs k ++ [xs[k]] := by
  show (if 0 < k ∧ xs[k]? = xs[k - 1]? then cpt xs k else cpt xs k ++ xs[k]?.toList) = _
  rw [if_neg (fun hc => h hc.2), List.getElem?_eq_getElem hk]
  rfl
theorem zeros_set (g : Nat) : ∀ (m : Nat) (o : Nat) (w : World) (cs : List Value), Blk w g 3 cs → ∃ cs', Blk (w.setCells g o (List.replicate m (.int .i64 0))) g 3 cs' ∧ (∀ i, i < o → cs'[i]? = cs[i]?)
  | 0, _, _, cs, h => ⟨cs, h, fun _ _ => rfl⟩
  | m + 1, o, w, cs, h => by
    obtain ⟨cs', h1, h2⟩ := zeros_set g m (o + 1) (w.setCell ⟨g, o, none⟩ (.int .i64 0)) (cs.set o (.int .i64 0)) (h.put o _)
    exact ⟨cs', h1, fun i hi => by rw [h2 i (by omega), set_off (by omega)]⟩
theorem zeros_kept (g : Nat) : ∀ (m : Nat) (o : Nat) (a w : World), Kept (fun k => k = g) a w → Kept (fun k => k = g) a (w.setCells g o (List.replicate m (.int .i64 0)))
  | 0, _, _, _, h => h
  | m + 1, o, a, w, h => zeros_kept g m (o + 1) a (w.setCell ⟨g, o, none⟩ (.int .i64 0)) (h.put (.inl rfl) o _)
theorem zero_int (w : World) : (zeroValue 3).run Tryz.prog w = .ok (.int .i64 0) w := by kernel_rfl
/-- What Compact answers. -/
def CptIs (g cap : Nat) (l : List Nat) (w : World) (r : Ending) (w' : World) : Prop :=
  r = .returned (.slice (some ⟨g, 0, none⟩) l.length cap) ∧ (∃ cs', Blk w' g 3 cs' ∧ ∀ i (h : i < l.length), cs'[i]? = some (.int .i64 (l[i] : Int))) ∧ Kept (fun k => k = g) w w'
theorem scompact_nil (w : World) : Calls Tryz.prog 41 #[.slice none 0 0] w (fun r w' => r = .returned (.slice none 0 0) ∧ w = w') := by
  go_enter Tryz.func41, Tryz.ntmps41
  go_wp2_with fail
  go_ret
  exact ⟨rfl, rfl⟩
set_option maxHeartbeats 4000000 in
set_option maxRecDepth 100000 in
theorem scompact_at {w : World} {g n cap : Nat} {xs : List Nat} {cs : List Value} (hl : xs.length = n) (hn : n ≤ 64) (hc : n ≤ cap) (hm : cap ≤ maxLen) (hB : Blk w g 3 cs) (hcl : cs.length = cap) (hcs : ∀ i (h : i < xs.length), cs[i]? = some (.int .i64 (xs[i] : Int))) : Calls Tryz.prog 41 #[.slice (some ⟨g, 0, none⟩) n cap] w (CptIs g cap (cpt xs n) w) := by
  have HL := Lib.hid hl
  have HB := Lib.hid hB
  have HCL := Lib.hid hcl
  have HCS := Lib.hid hcs
  have HC := Lib.hid hc
  have hm' : cap ≤ 9223372036854775807 := by have := hm; unfold maxLen at this; omega
  clear hl hB hcl hcs hm
  by_cases h2 : n < 2
  · have HE : Hid (CptIs g cap (cpt xs n) w (.returned (.slice (some ⟨g, 0, none⟩) n cap)) w) := Lib.hid (by
      have e : cpt xs n = xs := by
        rw [cpt_take (by rw [HL.out]; exact Nat.le_refl _) (fun j h1 h3 => by omega), List.take_of_length_le (by rw [HL.out]; exact Nat.le_refl _)]
      rw [e]
      exact ⟨by rw [HL.out], ⟨cs, HB.out, HCS.out⟩, Kept.refl _ _⟩)
    go_enter Tryz.func41, Tryz.ntmps41
    go_wp2_with fail
    go_ret
    exact HE.out
  · go_enter Tryz.func41, Tryz.ntmps41
    go_wp2_with fail
    go_loopg [3] (n - 1) (fun q x wr => ∃ k : Nat, 1 ≤ k ∧ k ≤ n ∧ q = n - k ∧ x = .int .i64 (k : Int) ∧ (∀ j, 0 < j → j < k → xs[j]? ≠ xs[j - 1]?) ∧ Blk wr g 3 cs ∧ Kept (fun k => k = g) w wr)
    case atStart => exact ⟨1, by omega, by omega, rfl, rfl, fun j h1 h3 => by omega, HB.out, Kept.refl _ _⟩
    case round =>
      obtain ⟨k, hk1, hk, hq, rfl, hno, hb, hkr⟩ := hrel
      have HQ := Lib.hid hq
      have HNO := Lib.hid hno
      have HBR := Lib.hid hb
      have HKR := Lib.hid hkr
      clear hq hno hb hkr
      by_cases hlt : k < n
      · have hkl : k < xs.length := by rw [HL.out]; exact hlt
        have c0 := HBR.out.at (HCS.out k hkl)
        have c1 := HBR.out.at (HCS.out (k - 1) (by omega))
        have hk1' : (k : Int) - 1 = ((k - 1 : Nat) : Int) := by omega
        have hk2 : k - 1 < n := by omega
        obtain ⟨x, hx⟩ : ∃ x, xs[k] = x := ⟨_, rfl⟩
        obtain ⟨y, hy⟩ : ∃ y, xs[k - 1] = y := ⟨_, rfl⟩
        rw [hx] at c0
        rw [hy] at c1
        by_cases he : x = y
        · have q : ((x : Int) == (y : Int)) = true := by simp [he]
          have HEQ : Hid (xs[k]? = xs[k - 1]?) := Lib.hid (by rw [List.getElem?_eq_getElem hkl, List.getElem?_eq_getElem (by omega), hx, hy, he])
          have hsl : (k : Int) ≤ (n : Int) := by omega
          have hcd : (cap = k) = False := by simp; omega
          clear hx hy he
          go_wp2_with fail
          go_region
          go_wp2_with fail
          have HC0 : Hid (cpt xs (k + 1) = xs.take k) := Lib.hid (by rw [cpt_same (by omega) HEQ.out, cpt_take (by omega) HNO.out])
          clear c0 c1 hk1' hk2 hsl hcd q HEQ HNO
          go_loopg [3, 5] (n - k - 1) (fun q x3 x5 wv => ∃ (m j : Nat), 1 ≤ j ∧ j ≤ n - k ∧ q = n - k - j ∧ x3 = .int .i64 (m : Int) ∧ x5 = .int .i64 (j : Int) ∧ k ≤ m ∧ m + 1 ≤ k + j ∧ (cpt xs (k + j)).length = m ∧ ∃ cs2, Blk wv g 3 cs2 ∧ cs2.length = cap ∧ (∀ i (h : i < (cpt xs (k + j)).length), cs2[i]? = some (.int .i64 ((cpt xs (k + j))[i] : Int))) ∧ (∀ i, k + j ≤ i + 1 → cs2[i]? = cs[i]?) ∧ Kept (fun k => k = g) w wv)
          case atStart =>
            refine ⟨k, 1, by omega, by omega, rfl, rfl, rfl, by omega, by omega, by rw [HC0.out, List.length_take]; omega, cs, HBR.out, HCL.out, fun i hi => ?_, fun i _ => rfl, HKR.out.drew⟩
            have hi' : i < k := by rw [HC0.out, List.length_take] at hi; omega
            rw [HCS.out i (by omega)]
            simp only [HC0.out, List.getElem_take]
          case round =>
            clear HBR HKR HC0
            obtain ⟨m, j, hj1, hj, hq2, rfl, rfl, hm1, hm2, hml, cs2, hb2, hl2, ha2, hz2, hk2⟩ := hrel
            have HQ2 := Lib.hid hq2
            have HB2 := Lib.hid hb2
            have HL2 := Lib.hid hl2
            have HA2 := Lib.hid ha2
            have HZ2 := Lib.hid hz2
            have HK2 := Lib.hid hk2
            have HML := Lib.hid hml
            clear hq2 hb2 hl2 ha2 hz2 hk2 hml
            by_cases hjl : j < n - k
            · have hkj : k + j < xs.length := by rw [HL.out]; omega
              have c0 : wr.cell? ⟨g, k + j, none⟩ = _ := HB2.out.at ((HZ2.out (k + j) (by omega)).trans (HCS.out (k + j) hkj))
              have c1 : wr.cell? ⟨g, k + (j - 1), none⟩ = _ := HB2.out.at ((HZ2.out (k + (j - 1)) (by omega)).trans (HCS.out (k + (j - 1)) (by omega)))
              have hj1' : (j : Int) - 1 = ((j - 1 : Nat) : Int) := by omega
              have hj2 : j - 1 < n - k := by omega
              obtain ⟨x2, hx2⟩ : ∃ x, xs[k + j] = x := ⟨_, rfl⟩
              obtain ⟨y2, hy2⟩ : ∃ x, xs[k + (j - 1)] = x := ⟨_, rfl⟩
              rw [hx2] at c0
              rw [hy2] at c1
              by_cases he2 : x2 = y2
              · have q : ((x2 : Int) != (y2 : Int)) = false := by simp [he2]
                have HC : Hid (cpt xs (k + (j + 1)) = cpt xs (k + j)) := Lib.hid (cpt_same (xs := xs) (k := k + j) (by omega) (by rw [show k + j - 1 = k + (j - 1) by omega, List.getElem?_eq_getElem hkj, List.getElem?_eq_getElem (show k + (j - 1) < xs.length by omega), hx2, hy2, he2]))
                clear hx2 hy2 he2
                go_wp2_with fail
                go_region
                go_wp2_with fail
                go_roundg (n - k - (j + 1))
                case rel => exact ⟨m, j + 1, by omega, by omega, rfl, rfl, by go_num, by omega, by omega, by rw [HC.out]; exact HML.out, cs2, HB2.out, HL2.out, fun i hi => by simp only [HC.out] at hi ⊢; exact HA2.out i hi, fun i hi => HZ2.out i (by omega), HK2.out.drew⟩
                case measure => have := HQ2.out; omega
              · have q : ((x2 : Int) != (y2 : Int)) = true := by simp; omega
                have HC : Hid (cpt xs (k + (j + 1)) = cpt xs (k + j) ++ [x2]) := Lib.hid (by
                  have := cpt_next (xs := xs) (k := k + j) hkj (by
                    rw [show k + j - 1 = k + (j - 1) by omega, List.getElem?_eq_getElem hkj, List.getElem?_eq_getElem (show k + (j - 1) < xs.length by omega), hx2, hy2]
                    intro e2
                    exact he2 (Option.some.inj e2))
                  rw [hx2] at this
                  exact this)
                have hmn : m < n := by omega
                have hmc : m < cs2.length := by rw [HL2.out]; omega
                obtain ⟨v0, e0⟩ : ∃ v, wr.cell? ⟨g, m, none⟩ = some v := ⟨_, HB2.out.cell m hmc⟩
                have f0 := HB2.out.free m
                have HE3 : Hid (∀ wv, wv = wr.drew.setCell ⟨g, m, none⟩ (.int .i64 (x2 : Int)) → ∃ cs2, Blk wv g 3 cs2 ∧ cs2.length = cap ∧ (∀ i (h : i < (cpt xs (k + (j + 1))).length), cs2[i]? = some (.int .i64 ((cpt xs (k + (j + 1)))[i] : Int))) ∧ (∀ i, k + (j + 1) ≤ i + 1 → cs2[i]? = cs[i]?) ∧ Kept (fun k => k = g) w wv) := Lib.hid (fun wv hv => by
                  subst hv
                  have hbd : Blk wr.drew g 3 cs2 := HB2.out
                  refine ⟨_, hbd.put m _, by rw [List.length_set]; exact HL2.out, fun i hi => ?_, fun i hi => ?_, HK2.out.drew.and (kept_put wr.drew g m _)⟩
                  · simp only [HC.out] at hi ⊢
                    by_cases him : i < (cpt xs (k + j)).length
                    · rw [List.getElem_append_left him, set_off (by have := HML.out; omega)]
                      exact HA2.out i him
                    · have him2 : i = (cpt xs (k + j)).length := by simp at hi; omega
                      have him3 : i = m := by rw [him2]; exact HML.out
                      have e1 : (cs2.set m (.int .i64 (x2 : Int)))[i]? = some (.int .i64 (x2 : Int)) := by
                        rw [him3]
                        exact List.getElem?_set_self hmc
                      have e2 : (cpt xs (k + j) ++ [x2])[i]'hi = x2 := by
                        rw [List.getElem_append_right (by omega)]
                        simp
                      rw [e1, e2]
                  · rw [set_off (by omega)]
                    exact HZ2.out i (by omega))
                clear hx2 hy2 he2 hmc
                go_wp2_with fail
                go_region
                go_wp2_with fail
                have hE3 := HE3.out _ rfl
                go_roundg (n - k - (j + 1))
                case rel => exact ⟨m + 1, j + 1, by omega, by omega, rfl, by go_num, by go_num, by omega, by omega, by rw [HC.out, List.length_append, HML.out]; rfl, hE3⟩
                case measure => have := HQ2.out; omega
            · obtain rfl : j = n - k := by omega
              have hkn : k + (n - k) = n := by omega
              have hmn : m < n := by omega
              have hsl : (m : Int) ≤ (n : Int) := by omega
              have hsc : (m : Int) ≤ (cap : Int) := by omega
              have hcd : (cap = m) = False := by simp; omega
              have hclr : ∀ ty, (Builtin.clear_ #[43] ty #[.slice (some ⟨g, m, none⟩) (n - m) (cap - m)]).run Tryz.prog wr = .ok (.tuple #[]) (wr.setCells g m (List.replicate (n - m) (.int .i64 0))) :=
                fun ty => Lib.run_clear_slice wr 43 3 ty (.int .i64 0) Tryz.underlying43 zero_int rfl rfl g m (n - m) (cap - m) (by omega) (fun j hj => by rw [HB2.out.cell (m + j) (by rw [HL2.out]; omega)]; rfl) (fun j hj => HB2.out.free _)
              rw [hkn] at HML HA2
              have HE : Hid (CptIs g cap (cpt xs n) w (.returned (.slice (some ⟨g, 0, none⟩) m cap)) (wr.setCells g m (List.replicate (n - m) (.int .i64 0)))) := Lib.hid (by
                obtain ⟨cs3, h3, h4⟩ := zeros_set g (n - m) m wr cs2 HB2.out
                exact ⟨by rw [HML.out], ⟨cs3, h3, fun i hi => by rw [h4 i (by have := HML.out; omega)]; exact HA2.out i hi⟩, zeros_kept g (n - m) m w wr HK2.out⟩)
              clear HB2 HL2 HA2 HZ2 HK2 HML
              go_wp2_with fail
              go_ret
              exact HE.out
        · have q : ((x : Int) == (y : Int)) = false := by simp; omega
          have HNO2 : Hid (∀ j, 0 < j → j < k + 1 → xs[j]? ≠ xs[j - 1]?) := Lib.hid (fun j h1 h3 => by
            by_cases e : j = k
            · subst e
              rw [List.getElem?_eq_getElem hkl, List.getElem?_eq_getElem (by omega), hx, hy]
              intro e2
              exact he (Option.some.inj e2)
            · exact HNO.out j h1 (by omega))
          clear hx hy he
          go_wp2_with fail
          go_region
          go_wp2_with fail
          go_roundg (n - (k + 1))
          case rel => exact ⟨k + 1, by omega, by omega, rfl, by go_num, HNO2.out, HBR.out, HKR.out.drew⟩
          case measure => have := HQ.out; omega
      · obtain rfl : k = n := by omega
        have HE : Hid (CptIs g cap (cpt xs k) w (.returned (.slice (some ⟨g, 0, none⟩) k cap)) wr) := Lib.hid (by
          have e : cpt xs k = xs := by
            rw [cpt_take (by rw [HL.out]; exact Nat.le_refl _) HNO.out, List.take_of_length_le (by rw [HL.out]; exact Nat.le_refl _)]
          rw [e]
          exact ⟨by rw [HL.out], ⟨cs, HBR.out, HCS.out⟩, HKR.out⟩)
        clear HNO HBR HKR
        go_wp2_with fail
        go_ret
        exact HE.out
end Go.Proofs.YtajccmkdfmpapaaGreatDoor
