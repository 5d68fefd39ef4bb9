/-
  The document's Blocks of a checkpoint: rows that lie in new memory.
  The landed slots' pages (of a checkpoint that may be).
-/
import Derived.Test.YthmpimjmajoimaaGreatDoorSw23
import Derived.Test.YthmpimjmajoimaaGreatDoorSw38
namespace Go.Proofs.YthmpimjmajoimaaGreatDoor
open Go.RowKit

/-- Rows that are new, and no error. -/
def BlocksN (l : List (List Int)) (w : World) (r : Ending) (w' : World) : Prop :=
  ∃ v vs, r = .returned (.tuple #[v, .int .i64 0]) ∧ RowF (newB w w') w' v vs ∧ vs.length = l.length ∧ (∀ i (h1 : i < vs.length) (h2 : i < l.length), BytF (newB w w') w' vs[i] l[i]) ∧ Below w.heap.size w w'
def ElemsN (base : Nat) (w : World) (g7 : Nat) (vs : List Value) (l : List (List Int)) : Prop := Elems w g7 vs l ∧ ∀ u ∈ vs, ∃ gi n ci, u = Value.slice (some ⟨gi, 0, none⟩) n ci ∧ base ≤ gi
theorem ElemsN.nil {base : Nat} {w : World} {g7 : Nat} : ElemsN base w g7 [] [] := ⟨Elems.nil, fun u h => by cases h⟩
theorem ElemsN.up {base : Nat} {w u : World} {g7 : Nat} {vs : List Value} {l : List (List Int)} (h : ElemsN base w g7 vs l) (hb : Below w.heap.size w u) : ElemsN base u g7 vs l := ⟨h.1.up hb, h.2⟩
theorem ElemsN.snoc {base : Nat} {w w' : World} {g7 g' gn cn : Nat} {vs : List Value} {l : List (List Int)} {xs : List Int} (h : ElemsN base w g7 vs l) (hg : w.grownBy w' (some g7)) (hg' : g' = g7 ∨ g' = w.heap.size) (hx : Rd w w.heap.size (some ⟨gn, 0, none⟩) xs) (hc : xs.length ≤ cn) (hne : gn ≠ g7) (hlt : gn < w.heap.size) (hbn : base ≤ gn) :
    ElemsN base w' g' (vs ++ [.slice (some ⟨gn, 0, none⟩) xs.length cn]) (l ++ [xs]) :=
  ⟨h.1.snoc hg hg' hx hc hne hlt, fun u hu => by
    rcases List.mem_append.1 hu with h1 | h1
    · exact h.2 u h1
    · simp at h1
      exact ⟨gn, _, cn, h1, hbn⟩⟩
set_option maxHeartbeats 4000000 in
set_option maxRecDepth 100000 in
theorem rkblocks_n (nu se sq z p b : Int) (B o : Nat) (dir : List Int) (n c : Nat) (w : World) (hr : RdV w w.heap.size (some ⟨B, o, none⟩) (u32s dir)) (hl : dir.length = n) (h : rightC z p b n = true) (hw : Words (nu :: se :: sq :: dir)) :
    Calls Tryz.prog 40 #[kV nu se sq z p b (.slice (some ⟨B, o, none⟩) n c)] w (BlocksN (blocksC nu se sq z p b dir) w) := by
  obtain ⟨hz, hp, hbb, ht, hn1, hn2⟩ := right_bd h
  have HWN : Hid (Words (numsC nu se sq z p b dir)) := Lib.hid (by
    intro x hx
    unfold numsC at hx
    simp only [List.mem_cons] at hx
    rcases hx with rfl | rfl | rfl | rfl | rfl | rfl | hx
    · exact hw _ (by simp)
    · exact hw _ (by simp)
    · exact hw _ (by simp)
    · exact ⟨by omega, by omega⟩
    · exact ⟨by omega, by omega⟩
    · exact ⟨by omega, by omega⟩
    · exact hw _ (by simp [hx]))
  have HR := Lib.hid hr
  have HL := Lib.hid hl
  clear hr hl hw ht
  have HK := Lib.hid (KeptK.new w 46 (kList nu se sq z p b (.slice (some ⟨B, o, none⟩) n c)))
  go_enter Tryz.func40, Tryz.ntmps40
  go_wp2_with fail
  refine (rkright_is nu se sq z p b (some ⟨B, o, none⟩) n c _).mono ?_
  rintro r w1 ⟨rfl, hb⟩
  have HK1 := Lib.hid (HK.out.up hb)
  clear hb HK
  rw [h]
  clear h
  have k0 : w1.cell? ⟨w.heap.size, 0, none⟩ = some (.int .u32 nu) := HK1.out.2.cell 0 (by simp)
  have k1 : w1.cell? ⟨w.heap.size, 1, none⟩ = some (.int .u32 se) := HK1.out.2.cell 1 (by simp)
  have k2 : w1.cell? ⟨w.heap.size, 2, none⟩ = some (.int .u32 sq) := HK1.out.2.cell 2 (by simp)
  have k3 : w1.cell? ⟨w.heap.size, 3, none⟩ = some (.int .i64 z) := HK1.out.2.cell 3 (by simp)
  have k4 : w1.cell? ⟨w.heap.size, 4, none⟩ = some (.int .i64 p) := HK1.out.2.cell 4 (by simp)
  have k5 : w1.cell? ⟨w.heap.size, 5, none⟩ = some (.int .i64 b) := HK1.out.2.cell 5 (by simp)
  have k6 : w1.cell? ⟨w.heap.size, 6, none⟩ = some (.slice (some ⟨B, o, none⟩) n c) := HK1.out.2.cell 6 (by simp)
  have HN6 : Hid (OwnG (w1.alloc (.cells #[.int .u32 nu, .int .u32 se, .int .u32 sq, .int .u32 z, .int .u32 p, .int .u32 b] 35)) (w.heap.size + 1) 35 w1.heap.size 6 (u32s [nu, se, sq, z, p, b])) := Lib.hid (OwnG.new w1 (w.heap.size + 1) 35 (u32s [nu, se, sq, z, p, b]) (by have := lt_of_block HK1.out.2; omega) (by simp [u32s]))
  have hlb := lt_of_block HK1.out.2
  go_wp2_with (first
    | (at_builtin; refine appG _ rfl (.tmp 30) (.tmp 32) 38 35 (.int .u32 0) 4 rfl Tryz.underlying38 infoU32 (by decide) (by decide) (w.heap.size + 1) w1.heap.size 6 6 n c (u32s [nu, se, sq, z, p, b]) (u32s dir) ⟨B, o, none⟩ rfl HN6.out ?h11 rfl ?h12 ?h1src (one_u32s _) ?h13 ?h14 ?h15 ?h16; (case h11 => simp [u32s]); (case h12 => rw [u32s_len]; exact HL.out); (case h13 => omega); (case h14 => omega); (case h15 => simp; omega); (case h1src => (exact RdV.src ((HR.out.below HK1.out.1).below (Below.alloc (Below.refl _ _) HK1.out.1.size _)))); intro g4 cap4 w4 ho hg hgg; have HO4 := Lib.hid ho; have HG4 := Lib.hid hg; clear ho hg HN6)
    | fail)
  obtain ⟨ns, hns⟩ : ∃ ns, numsC nu se sq z p b dir = ns := ⟨_, rfl⟩
  have HNS := Lib.hid hns
  have hnl : ns.length = 6 + n := by rw [← hns, ← HL.out]; simp [numsC]; omega
  have HO4' : Hid (OwnG w4 (w.heap.size + 1) 35 g4 cap4 (u32s ns)) := Lib.hid (by
    have := HO4.out
    rwa [show u32s [nu, se, sq, z, p, b] ++ u32s dir = u32s ns by rw [← hns]; simp [u32s, numsC]] at this)
  have HB4 : Hid (Below w.heap.size w w4) := Lib.hid ((HK1.out.1.alloc HK1.out.1.size _).grown HG4.out (HK1.out.1.alloc HK1.out.1.size _).size (fun j hj => by have := Option.some.inj hj; omega))
  rw [hns] at HWN
  clear HO4 HG4 HK1 hns k0 k1 k2 k3 k4 k5 k6 HR hgg hlb
  have hg4 := HO4'.out.mem
  have HE := Lib.hid (Own8.none w4 w4.heap.size (Nat.le_refl _))
  have HB5 := Lib.hid (HB4.out.alloc HB4.out.size (.cells #[] 5))
  have HO5 := Lib.hid (HO4'.out.rise (Below.alloc (Below.refl w4.heap.size w4) (Nat.le_refl _) (.cells #[] 5)))
  clear HO4' HB4
  go_wp2_with fail
  obtain ⟨b5, hb5⟩ : ∃ b5, w4.heap.size = b5 := ⟨_, rfl⟩
  obtain ⟨w5, hw5⟩ : ∃ w5 : World, w5 = w4.alloc (.cells #[] 5) := ⟨_, rfl⟩
  rw [← hw5] at HE HB5 HO5 ⊢
  rw [hb5] at HE hg4 ⊢
  clear hw5 hb5
  go_loopg [5, 6] (6 + n) (fun k s x wr => ∃ i g cap : Nat, i ≤ 6 + n ∧ k = 6 + n - i ∧ x = .int .i64 i ∧ s = .slice (some ⟨g, 0, none⟩) (4 * i) cap ∧ Own8 wr b5 g cap (flatM (ns.take i)) ∧ OwnG wr (w.heap.size + 1) 35 g4 cap4 (u32s ns) ∧ Below w.heap.size w wr)
  case atStart => exact ⟨0, b5, 0, by omega, by omega, rfl, rfl, HE.out, HO5.out, HB5.out⟩
  case round =>
    clear HE HB5 HO5
    obtain ⟨i, g, cap, hi, hk, rfl, rfl, ho, ho4, hb⟩ := hrel
    have HO := Lib.hid ho
    have HO4 := Lib.hid ho4
    have HB := Lib.hid hb
    have HK := Lib.hid hk
    clear ho ho4 hb hk
    by_cases hlt : i < 6 + n
    · have hln : i < ns.length := by omega
      have c0 := HO4.out.cell i (by rw [u32s_len]; omega)
      rw [u32s_get] at c0
      have HF := Lib.hid (flat_snoc hln)
      have HN := Lib.hid (HWN.out _ (List.getElem_mem hln))
      have HLL : Hid ((flatM (ns.take i)).length = 4 * i) := Lib.hid (by rw [flatM_len]; simp; omega)
      generalize ns[i] = v at *
      go_wp2_with fail
      refine (four_is v _ HN.out).mono ?_
      rintro r w' ⟨rfl, rfl⟩
      have HB2 := Lib.hid (HB.out.alloc HB.out.size (fourObj v))
      have HO2 := Lib.hid (HO.out.rise (Below.alloc (Below.refl wr.heap.size wr) (Nat.le_refl _) (fourObj v)))
      have HO42 := Lib.hid (HO4.out.rise (Below.alloc (Below.refl wr.heap.size wr) (Nat.le_refl _) (fourObj v)))
      have HM := Lib.hid HO.out.mem
      clear HB HO4 c0
      go_wp2_with (first
        | (at_builtin; refine app8 _ rfl (.tmp 41) (.tmp 46) rfl b5 (wr.heap.size + 1) g cap (4 * i) 4 4 (flatM (ns.take i)) (four v) (some ⟨wr.heap.size, 0, none⟩) rfl HO2.out HLL.out rfl (rd_four v wr) rfl (fun h => by cases h) ?h21 ?h22 ?h23 ?h24; (case h21 => omega); (case h22 => omega); (case h23 => have := HM.out; simp; omega); intro g3 cap3 w3 ho hg; have HO3 := Lib.hid ho; have HB3 := Lib.hid (HB2.out.grown hg HB2.out.size (fun j hj => by have := Option.some.inj hj; have := HM.out.1; omega)); have HO43 := Lib.hid (HO42.out.kept hg (fun e => by have := Option.some.inj e; have := HM.out.1; omega)); clear ho hg HB2 HO2 HO42 HM HO)
        | fail)
      go_roundg (6 + n - (i + 1))
      case rel => exact ⟨i + 1, g3, cap3, by omega, rfl, by go_num, by rw [Nat.mul_add], by rw [← HF.out]; exact HO3.out, HO43.out, HB3.out⟩
      case measure => have := HK.out; omega
    · obtain rfl : i = 6 + n := by omega
      rw [List.take_of_length_le (by omega)] at HO
      clear HO4 HK HWN
      obtain ⟨m, hm⟩ : ∃ m, 4 * (6 + n) = m := ⟨_, rfl⟩
      have hfl : (flatM ns).length = m := by rw [flatM_len, hnl, hm]
      have hmb : m ≤ 88 ∧ 28 ≤ m := by omega
      rw [hm]
      clear hm
      have HFL := Lib.hid hfl
      obtain ⟨sm, hsm⟩ : ∃ sm, sumN (flatM ns) = sm := ⟨_, rfl⟩
      have HSM := Lib.hid hsm
      have hsb := sumN_bd (flatM ns)
      rw [hsm] at hsb
      have HSW : Hid (Word sm) := Lib.hid ⟨hsb.1, by omega⟩
      have HX := Lib.hid (byt_flatM ns)
      clear hfl hsm hsb
      obtain ⟨wo, rfl⟩ : ∃ wo : World, wo = wr := ⟨_, rfl⟩
      go_wp2_with fail
      refine (rof_at HX.out HO.out.rd HFL.out (by omega) HSM.out).mono ?_
      rintro r w' ⟨rfl, rfl⟩
      go_wp2_with fail
      refine (four_is sm _ HSW.out).mono ?_
      rintro r w' ⟨rfl, rfl⟩
      have HB2 := Lib.hid (HB.out.alloc HB.out.size (fourObj sm))
      have HO2 := Lib.hid (HO.out.rise (Below.alloc (Below.refl wo.heap.size wo) (Nat.le_refl _) (fourObj sm)))
      have HM := Lib.hid HO.out.mem
      clear HB
      go_wp2_with (first
        | (at_builtin; refine app8 _ rfl (.tmp 48) (.tmp 51) rfl b5 (wo.heap.size + 1) g cap m 4 4 (flatM ns) (four sm) (some ⟨wo.heap.size, 0, none⟩) rfl HO2.out HFL.out rfl (rd_four sm wo) rfl (fun h => by cases h) ?h31 ?h32 ?h33 ?h34; (case h31 => omega); (case h32 => omega); (case h33 => have := HM.out; simp; omega); intro g3 cap3 w3 ho hg; have HO3 := Lib.hid ho; have HB3 := Lib.hid (HB2.out.grown hg HB2.out.size (fun j hj => by have := Option.some.inj hj; have := HM.out.1; omega)); clear ho hg HB2 HO2 HM HO)
        | fail)
      obtain ⟨pre, hpre⟩ : ∃ pre, flatM ns ++ four sm = pre := ⟨_, rfl⟩
      have hpl : pre.length = m + 4 := by rw [← hpre, List.length_append, HFL.out]; rfl
      obtain ⟨pl, hpll⟩ : ∃ pl, (16 - (m + 4) % 16) % 16 = pl := ⟨_, rfl⟩
      have HEN : Hid (encC nu se sq z p b dir = pre ++ List.replicate pl 0) := Lib.hid (by
        unfold encC bodyC
        rw [HNS.out, HSM.out, hpre]
        unfold padB
        rw [hpl, hpll])
      rw [hpre] at HO3
      clear hpre HSM HX HSW HFL hnl
      obtain ⟨wo2, rfl⟩ : ∃ wo2 : World, wo2 = w3 := ⟨_, rfl⟩
      go_loopg [5] pl (fun q s wr => ∃ k g cap : Nat, k ≤ pl ∧ q = pl - k ∧ s = .slice (some ⟨g, 0, none⟩) (m + 4 + k) cap ∧ Own8 wr b5 g cap (pre ++ List.replicate k 0) ∧ Below w.heap.size w wr)
      case atStart => exact ⟨0, g3, cap3, by omega, by omega, rfl, by simpa using HO3.out, HB3.out⟩
      case round =>
        clear HO3 HB3
        obtain ⟨k, g5, cap5, hk, hq, rfl, ho, hb⟩ := hrel
        have HO := Lib.hid ho
        have HB := Lib.hid hb
        have HQ := Lib.hid hq
        clear ho hb hq
        have hlk : (pre ++ List.replicate k 0).length = m + 4 + k := by simp [hpl]
        have HLK := Lib.hid hlk
        clear hlk
        by_cases hlt : k < pl
        · have q1 : (((m + 4 + k : Nat) : Int) % 16 != 0) = true := by simp; omega
          have HB2 := Lib.hid (HB.out.alloc HB.out.size (.cells #[.int .u8 0] 5))
          have HO2 := Lib.hid (HO.out.rise (Below.alloc (Below.refl wr.heap.size wr) (Nat.le_refl _) (.cells #[.int .u8 0] 5)))
          have HZ := Lib.hid (Own8.one wr wr.heap.size 0 (Nat.le_refl _)).rd
          have HM := Lib.hid HO.out.mem
          go_wp2_with (first
            | (at_builtin; refine app8 _ rfl (.tmp 57) (.tmp 58) rfl b5 _ g5 cap5 (m + 4 + k) 1 1 (pre ++ List.replicate k 0) [0] (some ⟨wr.heap.size, 0, none⟩) rfl HO2.out HLK.out rfl HZ.out rfl (fun h => by cases h) ?h41 ?h42 ?h43 ?h44; (case h41 => omega); (case h42 => omega); (case h43 => have := HM.out; simp; omega); intro g6 cap6 w6 ho hg; have HO6 := Lib.hid ho; have HB6 := Lib.hid (HB2.out.grown hg HB2.out.size (fun j hj => by have := Option.some.inj hj; have := HM.out.1; omega)); clear ho hg HB2 HO2 HM HO)
            | fail)
          go_roundg (pl - (k + 1))
          case rel => exact ⟨k + 1, g6, cap6, by omega, rfl, rfl, by rw [List.replicate_succ']; have := HO6.out; rwa [List.append_assoc] at this, HB6.out⟩
          case measure => have := HQ.out; omega
        · obtain rfl : k = pl := by omega
          have q1 : (((m + 4 + k : Nat) : Int) % 16 != 0) = false := by simp; omega
          obtain ⟨K, hK⟩ : ∃ K, m + 4 + k = 16 * K := ⟨(m + 4 + k) / 16, by omega⟩
          have hKb : 1 ≤ K ∧ K ≤ 8 := by omega
          rw [hK] at HLK
          obtain ⟨enc, henc⟩ : ∃ enc, pre ++ List.replicate k 0 = enc := ⟨_, rfl⟩
          rw [henc] at HO HLK HEN
          have HBK : Hid (blocksC nu se sq z p b dir = chunks K enc) := Lib.hid (by
            unfold blocksC
            rw [HEN.out, HLK.out]
            congr 1
            omega)
          have hc5 := HO.out.cap
          rw [HLK.out] at hc5
          have HM5 := HO.out.mem
          rw [hK]
          clear henc HEN HQ hpl hpll
          have HO7 := Lib.hid (OwnG.new wr wr.heap.size 61 [] (Nat.le_refl _) (by simp))
          have HB7 := Lib.hid (HB.out.alloc HB.out.size (.cells #[] 61))
          have HE7 := Lib.hid (HO.out.rise (Below.alloc (Below.refl wr.heap.size wr) (Nat.le_refl _) (.cells #[] 61)))
          have hb7w := HB.out.size
          clear HO HB
          go_wp2_with fail
          obtain ⟨b7, hb7⟩ : ∃ b7, wr.heap.size = b7 := ⟨_, rfl⟩
          obtain ⟨w7, hw7⟩ : ∃ w7 : World, w7 = wr.alloc (.cells #[] 61) := ⟨_, rfl⟩
          rw [show wr.alloc (.cells ([] : List Value).toArray 61) = w7 from hw7.symm] at HO7
          rw [← hw7] at HB7 HE7 ⊢
          rw [hb7] at HO7 HM5 hb7w ⊢
          clear hw7 hb7
          go_loopg [7, 8] K (fun q s x wr => ∃ (j g7 cap7 : Nat) (vs : List Value), j ≤ K ∧ q = K - j ∧ x = .int .i64 ((16 * j : Nat) : Int) ∧ s = .slice (some ⟨g7, 0, none⟩) j cap7 ∧ vs.length = j ∧ OwnG wr b7 61 g7 cap7 vs ∧ ElemsN w.heap.size wr g7 vs ((chunks K enc).take j) ∧ Own8 wr b5 g5 cap5 enc ∧ Below w.heap.size w wr)
          case atStart => exact ⟨0, b7, 0, [], by omega, by omega, rfl, rfl, rfl, HO7.out, ElemsN.nil, HE7.out, HB7.out⟩
          case round =>
            clear HO7 HE7 HB7
            obtain ⟨j, g7, cap7, vs, hj, hq, rfl, rfl, hvl, ho, hel, he, hb⟩ := hrel
            have HV := Lib.hid ho
            have HEL := Lib.hid hel
            have HEN := Lib.hid he
            have HB := Lib.hid hb
            have HQ := Lib.hid hq
            have HVL := Lib.hid hvl
            clear ho hel he hb hq hvl
            by_cases hlt : j < K
            · obtain ⟨t, ht⟩ : ∃ t, 16 * j = t := ⟨_, rfl⟩
              have htb : t + 16 ≤ 16 * K := by omega
              have hcd : (cap5 = t) = False := by simp; omega
              have hsub : t + 16 - t = 16 := by omega
              have HCH : Hid (((enc.drop t).take 16).length = 16) := Lib.hid (by simp [HLK.out]; omega)
              have HSN : Hid ((chunks K enc).take j ++ [(enc.drop t).take 16] = (chunks K enc).take (j + 1)) := Lib.hid (by
                rw [List.take_succ_eq_append_getElem (l := chunks K enc) (i := j) (by rw [chunks_len]; exact hlt), chunks_get hlt, ht])
              rw [ht]
              obtain ⟨ch, hch⟩ : ∃ ch, (enc.drop t).take 16 = ch := ⟨_, rfl⟩
              have HRC : Hid (Rd wr wr.heap.size (some ⟨g5, t, none⟩) ch) := Lib.hid (by
                rw [← hch]
                have := (HEN.out.rd.drop t).take 16
                rwa [Nat.zero_add] at this)
              rw [hch] at HCH HSN
              clear hch
              have HA := Lib.hid (Own8.none wr wr.heap.size (Nat.le_refl _))
              have HBA := Lib.hid (Below.alloc (Below.refl wr.heap.size wr) (Nat.le_refl _) (.cells #[] 5))
              have HMV := Lib.hid HV.out.mem
              go_wp2_with (first
                | (at_builtin; refine app8 _ rfl (.tmp 68) (.tmp 73) rfl wr.heap.size wr.heap.size wr.heap.size 0 0 16 (cap5 - t) [] ch (some ⟨g5, t, none⟩) rfl HA.out rfl ?h5x (HRC.out.below HBA.out) HCH.out (fun h => by cases h) ?h51 ?h52 ?h53 ?h54; (case h5x => show Value.slice (some ⟨g5, t, none⟩) (t + 16 - t) (cap5 - t) = _; rw [hsub]); (case h51 => omega); (case h52 => omega); (case h53 => simp); intro g8 cap8 w8 ho hg; have HO8 := Lib.hid (show Own8 _ _ _ _ ch from ho); have HB8 := Lib.hid (HBA.out.grown hg HBA.out.size (fun j hj => by have := Option.some.inj hj; omega)); clear ho hg HA HBA)
                | (at_builtin; refine appG _ rfl (.tmp 67) (.tmp 75) 60 61 (.slice none 0 0) 24 rfl Tryz.underlying60 infoRow rfl (by decide) b7 g7 cap7 j 1 1 vs [.slice (some ⟨g8, 0, none⟩) 16 cap8] ⟨w8.heap.size, 0, none⟩ rfl (OwnG.rise HV.out (HB8.out.alloc HB8.out.size _)) HVL.out rfl rfl ?h6s ?h6o ?h61 ?h62 ?h63 ?h64; (case h6s => intro j hj; obtain rfl : j = 0 := (by simp at hj; omega); simp [Addr.add]); (case h6o => intro u hu; simp at hu; subst hu; rfl); (case h61 => omega); (case h62 => omega); (case h63 => have := HB8.out.size; have := HMV.out; simp; omega); intro g9 cap9 w9 ho hg hgg; have HV9 := Lib.hid ho; have HG9 := Lib.hid hg; have HGG := Lib.hid hgg; clear ho hg hgg)
                | fail)
              have HBX := Lib.hid (HB8.out.alloc HB8.out.size (.cells #[.slice (some ⟨g8, 0, none⟩) 16 cap8] 61))
              have h8 := HO8.out.mem
              have h8c := HO8.out.cap
              have h8s := HB8.out.size
              have hmv := HMV.out
              have hws := HB.out.size
              have HEL9 : Hid (ElemsN w.heap.size w9 g9 (vs ++ [.slice (some ⟨g8, 0, none⟩) 16 cap8]) ((chunks K enc).take (j + 1))) := Lib.hid (by
                have := (HEL.out.up HBX.out).snoc (xs := ch) (gn := g8) (cn := cap8) HG9.out HGG.out (HO8.out.rise (Below.alloc (Below.refl w8.heap.size w8) (Nat.le_refl _) _)).rd h8c (by omega) (by rw [World.size_alloc]; omega) (by omega)
                rw [HCH.out] at this
                rw [← HSN.out]
                exact this)
              have HEN9 : Hid (Own8 w9 b5 g5 cap5 enc) := Lib.hid ((HEN.out.rise HBX.out).kept HG9.out (fun e => by have := Option.some.inj e; omega))
              have HB9 : Hid (Below w.heap.size w w9) := Lib.hid ((HB.out.trans (HBX.out.mono hws)).grown HG9.out (HB.out.trans (HBX.out.mono hws)).size (fun j hj => by have := Option.some.inj hj; omega))
              go_roundg (K - (j + 1))
              case rel => exact ⟨j + 1, g9, cap9, vs ++ [.slice (some ⟨g8, 0, none⟩) 16 cap8], by omega, rfl, by go_num, rfl, by rw [List.length_append, HVL.out]; rfl, HV9.out, HEL9.out, HEN9.out, HB9.out⟩
              case measure => have := HQ.out; omega
            · obtain rfl : j = K := by omega
              have hcv := HV.out.cap
              rw [HVL.out] at hcv
              rw [List.take_of_length_le (by rw [chunks_len]; omega)] at HEL
              go_wp2_with fail
              go_ret2
              refine ⟨.slice (some ⟨g7, 0, none⟩) j cap7, vs, rfl, ?_, ?_, ?_, HB.out⟩
              · exact ⟨some ⟨g7, 0, none⟩, cap7, by rw [HVL.out], by rw [HVL.out]; exact hcv, HV.out.rdV, (InF.one ⟨Nat.le_trans hb7w HV.out.mem.1, HV.out.mem.2⟩).n, fun e => by cases e⟩
              · rw [HBK.out, chunks_len, HVL.out]
              · intro i h1 h2
                rw [List.getElem_of_eq HBK.out h2]
                have h3 : i < (chunks j enc).length := by rw [chunks_len, ← HVL.out]; exact h1
                obtain ⟨gi, ci, e, hc, hr, _, hlt⟩ := HEL.out.1.2 i h1 h3
                obtain ⟨gi2, n2, ci2, e2, hb2⟩ := HEL.out.2 _ (List.getElem_mem h1)
                rw [e] at e2
                injection e2 with e2
                injection e2 with e2
                injection e2 with e2
                subst e2
                exact ⟨some ⟨gi, 0, none⟩, ci, e, hc, hr, (InF.one ⟨hb2, hlt⟩).n, fun e => by cases e⟩

end Go.Proofs.YthmpimjmajoimaaGreatDoor
namespace Go.Proofs.YthmpimjmajoimaaGreatDoor
open Go.RowKit

/-- The first i pages of a checkpoint, as rows. -/
structure PAcc (base : Nat) (w : World) (C : ChkS) (i : Nat) (v : Value) (vs : List Value) : Prop where
  row : RowV w base 61 v vs
  len : vs.length = i
  el : ∀ j (h : j < vs.length), ∃ g, vs[j] = .slice (some ⟨g, 0, none⟩) 33 33 ∧ Blk8 w g (C.page j) ∧ base ≤ g
theorem PAcc.kept {base i : Nat} {w w' : World} {C : ChkS} {v : Value} {vs : List Value} {row : Option Nat} (h : PAcc base w C i v vs) (hg : w.grownBy w' row) (hf : Far2 base w row) : PAcc base w' C i v vs :=
  ⟨h.row.kept hg (fun g e => by obtain ⟨hb, o, ho, hc⟩ := own_cells h.row g e; exact hf.ne hb ho hc), h.len, fun j h1 => by
    obtain ⟨g, e, ho, hb⟩ := h.el j h1
    exact ⟨g, e, (hg.block g (lt_of_block ho) (hf.ne hb ho rfl)).trans ho, hb⟩⟩
theorem PAcc.rise {base i : Nat} {w w' : World} {C : ChkS} {v : Value} {vs : List Value} (h : PAcc base w C i v vs) (hb : Below w.heap.size w w') : PAcc base w' C i v vs := h.kept (grown_none hb) (fun _ e => by cases e)
theorem PAcc.step {base i g : Nat} {w w4 : World} {C : ChkS} {v v4 : Value} {vs : List Value} (h : PAcc base w C i v vs) (hg : w.grownBy w4 v.ownBlock) (hr : RowV w4 base 61 v4 (vs ++ [.slice (some ⟨g, 0, none⟩) 33 33])) (ho : Blk8 w g (C.page i)) (hb : base ≤ g) :
    PAcc base w4 C (i + 1) v4 (vs ++ [.slice (some ⟨g, 0, none⟩) 33 33]) := by
  have far : ∀ {g : Nat} {xs : List Int}, Blk8 w g xs → Blk8 w4 g xs := fun {g xs} ho => by
    refine (hg.block g (lt_of_block ho) (fun e => ?_)).trans ho
    rcases h.row.2 with ⟨rfl, _⟩ | ⟨g', cap, cur, rfl, _, hx, _⟩
    · cases e
    · have e : g = g' := by simpa [Value.ownBlock] using e
      subst e
      have ho2 : w.heap[g]? = _ := ho
      rw [hx] at ho2
      injection ho2 with ho2
      injection ho2 with _ ht
      exact absurd ht (by decide)
  refine ⟨hr, by simp [h.len], fun j h1 => ?_⟩
  by_cases hji : j < vs.length
  · obtain ⟨g', e, ho', hb'⟩ := h.el j hji
    exact ⟨g', by rw [List.getElem_append_left hji]; exact e, far ho', hb'⟩
  · have hlen := h.len
    have : j = i := by rw [List.length_append] at h1; simp at h1; omega
    subst this
    refine ⟨g, ?_, far ho, hb⟩
    rw [List.getElem_append_right (by omega)]
    simp
theorem PAcc.le {base base' i : Nat} {w : World} {C : ChkS} {v : Value} {vs : List Value} (h : PAcc base w C i v vs) (hb : base' ≤ base) : PAcc base' w C i v vs :=
  ⟨h.row.le hb, h.len, fun j h1 => by
    obtain ⟨g, e, ho, hg⟩ := h.el j h1
    exact ⟨g, e, ho, Nat.le_trans hb hg⟩⟩
set_option maxHeartbeats 2000000 in
set_option maxRecDepth 100000 in
theorem slpages_at {A : Option Addr} {n c : Nat} {w : World} (C : ChkS) (hr : RdV w w.heap.size A (u32s C.dir)) (hl : C.dir.length = n) (hw : C.words) (h : C.right = true) :
    Calls Tryz.prog 75 #[ckV C (.slice A n c)] w (fun r w' => ∃ A' c' vs, r = .returned (.tuple #[.slice A' C.blocks.length c', .nilIface]) ∧ PAcc w.heap.size w' C C.blocks.length (.slice A' C.blocks.length c') vs ∧ Below w.heap.size w w') := by
  have hle := ChkS.blocks_le h
  have hrb := ChkS.right_bd h
  have hwb := ChkS.words_bd hw
  have HBI : Hid (∀ i, i < C.blocks.length → (C.blocks.getD i []).length = 16 ∧ Byt (C.blocks.getD i [])) := Lib.hid (fun i hi => ⟨ChkS.block_16 hi, ChkS.block_byt i⟩)
  obtain ⟨m, hm⟩ : ∃ m, C.blocks.length = m := ⟨_, rfl⟩
  have hbl : blocksC C.nu C.se C.sq C.z C.p C.b C.dir = C.blocks := rfl
  rw [hm] at hle HBI ⊢
  have HPG : Hid (∀ i, C.page i = pageB 5 C.se (i : Int) C.nu (C.blocks.getD i [])) := Lib.hid (fun i => rfl)
  have HM := Lib.hid hm
  have hm16 : m ≤ 16 := by omega
  have HKB : Hid (∀ u, Below w.heap.size w u → Calls Tryz.prog 102 #[ckV C (.slice A n c)] u (fun r w' => ∃ (g cap : Nat) (ys : List Nat), r = .returned (.tuple #[.slice (some ⟨g, 0, none⟩) m cap, .nilIface]) ∧ Rows16 w' u.heap.size g cap ys C.blocks ∧ Below u.heap.size u w')) := Lib.hid (fun u hu => by
    have := kblocks_ok (c := c) C.nu C.se C.sq C.z C.p C.b (hr.up hu) hl hw (by unfold ChkS.right at h; rw [hl] at h; exact h)
    rw [hbl, hm] at this
    exact this)
  have HK0 := Lib.hid (KeptK.new w 40 (kList C.nu C.se C.sq C.z C.p C.b (.slice A n c)))
  obtain ⟨nu, hnu⟩ : ∃ x, C.nu = x := ⟨_, rfl⟩
  obtain ⟨se, hse⟩ : ∃ x, C.se = x := ⟨_, rfl⟩
  obtain ⟨sq, hsq⟩ : ∃ x, C.sq = x := ⟨_, rfl⟩
  obtain ⟨z, hz⟩ : ∃ x, C.z = x := ⟨_, rfl⟩
  obtain ⟨p, hp⟩ : ∃ x, C.p = x := ⟨_, rfl⟩
  obtain ⟨b, hb⟩ : ∃ x, C.b = x := ⟨_, rfl⟩
  rw [hnu, hse] at hwb HPG
  rw [hnu, hse, hsq, hz, hp, hb] at HK0
  have hv : ckV C (.slice A n c) = kV nu se sq z p b (.slice A n c) := by rw [← hnu, ← hse, ← hsq, ← hz, ← hp, ← hb]
  rw [hv] at HKB ⊢
  clear hr hl hw h hbl hm hnu hse hsq hz hp hb hv hrb
  go_enter Tryz.func75, Tryz.ntmps75
  go_wp2_with fail
  refine (HKB.out _ HK0.out.1).mono ?_
  rintro r w1 ⟨g, cap, ys, rfl, hrw, hb1⟩
  have HK1 := Lib.hid (HK0.out.up hb1)
  have HRW := Lib.hid hrw
  have HYL : Hid (ys.length = m) := Lib.hid (by rw [hrw.len, HM.out])
  have HP0 : Hid (PAcc w1.heap.size w1 C 0 (.slice none 0 0) []) := Lib.hid ⟨World.ownsRow_nil _ _ _ _, rfl, fun j h => absurd h (by simp)⟩
  clear hrw hb1
  go_wp2_with fail
  go_loopg [6, 21] m (fun q x6 x21 wr => ∃ (i : Nat) (A' : Option Addr) (c' : Nat) (vs : List Value), i ≤ m ∧ q = m - i ∧ x6 = .slice A' i c' ∧ x21 = .int .i64 (i : Int) ∧ PAcc w1.heap.size wr C i (.slice A' i c') vs ∧ Below w1.heap.size w1 wr)
  case atStart => exact ⟨0, none, 0, [], by omega, by omega, rfl, rfl, HP0.out, Below.refl _ _⟩
  case round =>
    clear HP0
    have HRW1 := HRW
    clear HRW
    obtain ⟨i, A', c', vs, hi, hq, rfl, rfl, hpa, hbw⟩ := hrel
    have HQ := Lib.hid hq
    have HPA := Lib.hid hpa
    have HBW := Lib.hid hbw
    have HK := Lib.hid (HK1.out.up hbw)
    have HRW := Lib.hid (HRW1.out.up hbw)
    clear hq hpa hbw
    by_cases hlt : i < m
    · have hyl : i < ys.length := by rw [HYL.out]; exact hlt
      have hbl : i < C.blocks.length := by rw [HM.out]; exact hlt
      obtain ⟨y, hy⟩ : ∃ y, ys[i] = y := ⟨_, rfl⟩
      have hcell := HRW.out.own.cell i (by rw [List.length_map]; exact hyl)
      rw [List.getElem_map, hy] at hcell
      have hcell : wr.cell? ⟨g, i, none⟩ = some (.slice (some ⟨y, 0, none⟩) 16 16) := hcell
      have HBY := Lib.hid (HRW.out.row i hyl hbl)
      rw [hy] at HBY
      obtain ⟨blk, hblk⟩ : ∃ x, C.blocks[i] = x := ⟨_, rfl⟩
      have HBE : Hid (C.blocks.getD i [] = blk) := Lib.hid (by rw [List.getD_eq_getElem?_getD, List.getElem?_eq_getElem hbl, Option.getD_some]; exact hblk)
      rw [hblk] at HBY
      have HB16 := Lib.hid (HBI.out i hlt)
      rw [HBE.out] at HB16
      have e0 := HK.out.2.cell 0 (by simp)
      have e1 := HK.out.2.cell 1 (by simp)
      simp only [List.getElem_cons_zero, List.getElem_cons_succ] at e0 e1
      clear hy hblk
      go_wp2_with fail
      refine (slof_at se nu (i : Int) wr (by omega) (by omega)).mono ?_
      rintro r w3 ⟨rfl, hb3⟩
      have HPA3 := Lib.hid (HPA.out.rise hb3)
      have HBW3 := Lib.hid (HBW.out.trans (hb3.mono HBW.out.size))
      have HK3 := Lib.hid (HK.out.up hb3)
      have HRD : Hid (Rd w3 w3.heap.size (some ⟨y, 0, none⟩) blk) := Lib.hid (by
        have h := Blk8.rd (Blk.up HBY.out.1 hb3 (lt_of_block HBY.out.1)) 0
        rwa [List.drop_zero] at h)
      clear hb3 e0 e1 hcell
      go_wp2_with fail
      refine (bytes_ok 5 se (i : Int) nu (some ⟨y, 0, none⟩) blk 16 w3 HRD.out HB16.out.2 HB16.out.1 (by omega) (by decide) hwb.2 (by omega) hwb.1).mono ?_
      rintro r w5 ⟨gp, rfl, hgp, hgb, hb5⟩
      have HPA5 := Lib.hid (HPA3.out.rise hb5)
      have HBW5 := Lib.hid (HBW3.out.trans (hb5.mono HBW3.out.size))
      have HGP : Hid (Blk8 w5 gp (C.page i) ∧ w1.heap.size ≤ gp) := Lib.hid ⟨by rw [HPG.out, HBE.out]; exact hgp, by have := HBW3.out.size; omega⟩
      clear hgp hgb hb5
      obtain ⟨w6, hw6⟩ : ∃ u, w5.alloc (.cells #[.slice (some ⟨gp, 0, none⟩) 33 33] 61) = u := ⟨_, rfl⟩
      have hb6 : Below w5.heap.size w5 w6 := by rw [← hw6]; exact (Below.refl _ _).alloc (Nat.le_refl _) _
      have HPA6 := Lib.hid (HPA5.out.rise hb6)
      have HBW6 := Lib.hid (HBW5.out.trans (hb6.mono HBW5.out.size))
      have HGP6 : Hid (Blk8 w6 gp (C.page i) ∧ w1.heap.size ≤ gp) := Lib.hid ⟨Blk.up HGP.out.1 hb6 (lt_of_block HGP.out.1), HGP.out.2⟩
      have HRO : Hid (RdV w6 w6.heap.size (some ⟨w5.heap.size, 0, none⟩) [.slice (some ⟨gp, 0, none⟩) 33 33]) := Lib.hid (by rw [← hw6]; exact rdv_one w5 _ _)
      have HVL : Hid (vs.length = i) := Lib.hid HPA6.out.len
      clear hb6 HPA HPA3 HPA5 HK HK3 HRW HGP HBY HRD HBW HBW3 HBW5
      go_wp2_with (first
        | (at_builtin; refine appR _ rfl (.tmp 40) (.tmp 42) 60 61 (.slice none 0 0) 24 rfl Tryz.underlying60 infoRow rfl (by decide) w1.heap.size i 1 1 (.slice A' i c') vs [.slice (some ⟨gp, 0, none⟩) 33 33] (some ⟨w5.heap.size, 0, none⟩) rfl HPA6.out.row HVL.out rfl rfl HRO.out (fun e => by cases e) (fun u hu => by simp at hu; subst hu; rfl) ?h1 ?h2 ?_; (case h1 => omega); (case h2 => exact HBW6.out.size); intro v7 w7 ho hg; obtain ⟨A7, c7, rfl⟩ : ∃ X c, v7 = .slice X (i + 1) c := (by obtain ⟨X, c, e, _⟩ := ho.out; exact ⟨X, c, by rw [e, app_one_len HVL.out]⟩); have HN7 := Lib.hid (HPA6.out.step hg ho HGP6.out.1 HGP6.out.2); have HBW7 := Lib.hid (HBW6.out.grown hg HBW6.out.size (fun k e => (HPA6.out.row.own k e).1)); clear ho hg)
        | fail)
      go_roundg (m - (i + 1))
      case rel => exact ⟨i + 1, A7, c7, _, by omega, rfl, rfl, by go_num, HN7.out, HBW7.out⟩
      case measure => have := HQ.out; omega
    · have e : i = m := by omega
      subst e
      go_wp2_with fail
      go_ret2
      exact ⟨A', c', vs, rfl, HPA.out.le HK1.out.1.size, below_all HK1.out.1 HBW.out⟩
end Go.Proofs.YthmpimjmajoimaaGreatDoor
