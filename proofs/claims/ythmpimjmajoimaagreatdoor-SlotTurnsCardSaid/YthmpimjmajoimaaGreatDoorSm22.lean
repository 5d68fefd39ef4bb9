/-
  The document's Blocks of a checkpoint.
-/
import Derived.Test.YthmpimjmajoimaaGreatDoorSm05
import Derived.Test.YthmpimjmajoimaaGreatDoorSm20
import Derived.Test.YthmpimjmajoimaaGreatDoorSm21
namespace Go.Proofs.YthmpimjmajoimaaGreatDoor
open Go.RowKit

/-- The value v is a row of rows of bytes. -/
def RowsAt (w : World) (v : Value) (l : List (List Int)) : Prop := ∃ A c vs, v = .slice A l.length c ∧ l.length ≤ c ∧ RdV w w.heap.size A vs ∧ RdR w vs l
theorem RowsAt.up {w u : World} {v : Value} {l : List (List Int)} (h : RowsAt w v l) (hb : Below w.heap.size w u) : RowsAt u v l := by
  obtain ⟨A, c, vs, e, hc, hv, hr⟩ := h
  exact ⟨A, c, vs, e, hc, hv.up hb, hr.up hb⟩
theorem RowsAt.nil (w : World) : RowsAt w (.slice none 0 0) [] := ⟨none, 0, [], rfl, by simp, RdV.nil, RdR.nil⟩
/-- Rows and an error's value. -/
def BlocksIs (e : Value) (l : List (List Int)) (w : World) (r : Ending) (w' : World) : Prop := ∃ v, r = .returned (.tuple #[v, e]) ∧ RowsAt w' v l ∧ Below w.heap.size w w'

theorem infoU32 : (Tryz.prog.info? 35).map (fun i => (i.zero, i.size, i.bytes)) = some (some (.int .u32 0), 1, 4) := by kernel_rfl
theorem one_u32s (ns : List Int) : ∀ u ∈ u32s ns, u.oneCell' = true := by
  intro u hu
  simp only [u32s, List.mem_map] at hu
  obtain ⟨y, _, rfl⟩ := hu
  rfl
theorem RdV.src {w : World} {B b o : Nat} {vs : List Value} (h : RdV w B (some ⟨b, o, none⟩) vs) : ∀ j (hj : j < vs.length), w.cell? ((⟨b, o, none⟩ : Addr).add j) = some vs[j] := by
  intro j hj
  obtain ⟨b', o', hA, _, hc⟩ := h (by omega)
  have hA := Option.some.inj hA
  injection hA with e1 e2
  subst e1 e2
  have := hc j hj
  rcases j with _ | j
  · simpa [Addr.add] using this
  · simpa [Addr.add] using this
theorem flat_flatM (ns : List Int) : flatM ns = flat ns := rfl
theorem flat_snoc {ns : List Int} {i : Nat} (h : i < ns.length) : flatM (ns.take i) ++ four ns[i] = flatM (ns.take (i + 1)) := by
  rw [List.take_succ_eq_append_getElem h]
  unfold flatM
  rw [List.flatMap_append]
  simp only [List.flatMap_cons, List.flatMap_nil, List.append_nil]
theorem byt_flatM (ns : List Int) : Byt (flatM ns) := by
  induction ns with
  | nil => exact Byt.nil
  | cons n ns ih => exact (byt_four n).app ih
/-- What a geometry that may be is bounded by. -/
theorem right_bd {z p b : Int} {n : Nat} (h : rightC z p b n = true) : (11 ≤ z ∧ z ≤ 24) ∧ (4 ≤ p ∧ p ≤ 16) ∧ (1 ≤ b ∧ b ≤ 64) ∧ (n : Int) = tab b ∧ 1 ≤ n ∧ n ≤ 16 := by
  unfold rightC at h
  simp only [Bool.and_eq_true, decide_eq_true_eq] at h
  obtain ⟨h1, h2⟩ := h
  unfold rightB at h1
  simp only [decide_eq_true_eq] at h1
  have h3 := (bnd_bd z p).2
  have h4 := (bnd_room (z := z) (p := p) (by omega)).1
  have h5 := tab_le (n := b) (by omega) (by omega)
  have h6 := insB_iff.1 h4
  omega

theorem rof_at {A : Option Addr} {xs : List Int} {n c : Nat} {m : Int} {w : World} (hx : Byt xs) (hr : Rd w w.heap.size A xs) (hl : xs.length = n) (hn : n ≤ 20000) (hm : sumN xs = m) : Calls Tryz.prog 81 #[.slice A n c] w (NumIs m w) := by
  subst hl hm
  exact rof_is A xs c w hx hr hn
theorem Rd.kept {w w' : World} {g o : Nat} {xs : List Int} {row : Option Nat} (h : Rd w w.heap.size (some ⟨g, o, none⟩) xs) (hg : w.grownBy w' row) (hne : some g ≠ row) : Rd w' w'.heap.size (some ⟨g, o, none⟩) xs := by
  intro hn
  obtain ⟨b', o', hA, hlt, hc⟩ := h hn
  have hA' := Option.some.inj hA
  injection hA' with e1 e2
  subst e1 e2
  exact ⟨g, o, rfl, Nat.lt_of_lt_of_le hlt hg.size, fun i hi => hg.cell (hc i hi) hne⟩
/-- Rows of bytes in blocks of their own, none of them block g7. -/
def Elems (w : World) (g7 : Nat) (vs : List Value) (l : List (List Int)) : Prop :=
  vs.length = l.length ∧ ∀ i (h : i < vs.length) (h2 : i < l.length), ∃ gi ci, vs[i] = .slice (some ⟨gi, 0, none⟩) l[i].length ci ∧ l[i].length ≤ ci ∧ Rd w w.heap.size (some ⟨gi, 0, none⟩) l[i] ∧ gi ≠ g7 ∧ gi < w.heap.size
theorem Elems.nil {w : World} {g7 : Nat} : Elems w g7 [] [] := ⟨rfl, fun i h => by simp at h⟩
theorem Elems.rows {w : World} {g7 : Nat} {vs : List Value} {l : List (List Int)} (h : Elems w g7 vs l) : RdR w vs l :=
  ⟨h.1, fun i h1 h2 => by obtain ⟨gi, ci, e, hc, hr, _⟩ := h.2 i h1 h2; exact ⟨_, ci, e, hc, hr⟩⟩
theorem Elems.up {w u : World} {g7 : Nat} {vs : List Value} {l : List (List Int)} (h : Elems w g7 vs l) (hb : Below w.heap.size w u) : Elems u g7 vs l :=
  ⟨h.1, fun i h1 h2 => by obtain ⟨gi, ci, e, hc, hr, hne, hlt⟩ := h.2 i h1 h2; exact ⟨gi, ci, e, hc, rd_up hr hb, hne, Nat.lt_of_lt_of_le hlt hb.size⟩⟩
/-- One row more, where the row of rows has grown. -/
theorem Elems.snoc {w w' : World} {g7 g' gn cn : Nat} {vs : List Value} {l : List (List Int)} {xs : List Int} (h : Elems w g7 vs l) (hg : w.grownBy w' (some g7)) (hg' : g' = g7 ∨ g' = w.heap.size) (hx : Rd w w.heap.size (some ⟨gn, 0, none⟩) xs) (hc : xs.length ≤ cn) (hne : gn ≠ g7) (hlt : gn < w.heap.size) :
    Elems w' g' (vs ++ [.slice (some ⟨gn, 0, none⟩) xs.length cn]) (l ++ [xs]) := by
  refine ⟨by simp [h.1], fun i h1 h2 => ?_⟩
  by_cases hi : i < vs.length
  · have hi2 : i < l.length := by rw [← h.1]; exact hi
    obtain ⟨gi, ci, e, hc, hr, hn, hl⟩ := h.2 i hi hi2
    rw [List.getElem_append_left hi, List.getElem_append_left hi2]
    exact ⟨gi, ci, e, hc, hr.kept hg (fun e => hn (Option.some.inj e)), by rcases hg' with rfl | rfl <;> omega, Nat.lt_of_lt_of_le hl hg.size⟩
  · have e1 : i = vs.length := by simp at h1; omega
    subst e1
    have e2 : vs.length = l.length := h.1
    rw [List.getElem_append_right (by omega), List.getElem_append_right (by omega)]
    simp only [e2, Nat.sub_self, List.getElem_cons_zero]
    exact ⟨gn, cn, rfl, hc, hx.kept hg (fun e => hne (Option.some.inj e)), by rcases hg' with rfl | rfl <;> omega, Nat.lt_of_lt_of_le hlt hg.size⟩
theorem rkblocks_no (nu se sq z p b : Int) (A : Option Addr) (n c : Nat) (w : World) (h : rightC z p b n = false) : Calls Tryz.prog 40 #[kV nu se sq z p b (.slice A n c)] w (BlocksIs (.int .i64 1) [] w) := by
  have HB0 := Lib.hid ((Below.refl w.heap.size w).alloc (Nat.le_refl _) (.cells (kCellsq1 nu se sq z p b (.slice A n c)) 46))
  go_enter Tryz.func40, Tryz.ntmps40
  go_wp2_with fail
  refine (rkright_is nu se sq z p b A n c _).mono ?_
  rintro r w1 ⟨rfl, hb⟩
  have HB1 := Lib.hid (HB0.out.trans (hb.mono HB0.out.size))
  clear hb
  rw [h]
  go_wp2_with fail
  go_ret2
  exact ⟨_, rfl, RowsAt.nil _, HB1.out⟩

set_option maxHeartbeats 4000000 in
set_option maxRecDepth 100000 in
theorem rkblocks_ok (nu se sq z p b : Int) (B o : Nat) (dir : List Int) (n c : Nat) (w : World) (hr : RdV w w.heap.size (some ⟨B, o, none⟩) (u32s dir)) (hl : dir.length = n) (h : rightC z p b n = true) (hw : Words (nu :: se :: sq :: dir)) :
    Calls Tryz.prog 40 #[kV nu se sq z p b (.slice (some ⟨B, o, none⟩) n c)] w (BlocksIs (.int .i64 0) (blocksC nu se sq z p b dir) w) := by
  obtain ⟨hz, hp, hbb, ht, hn1, hn2⟩ := right_bd h
  have HWN : Hid (Words (numsC nu se sq z p b dir)) := Lib.hid (by
    intro x hx
    unfold numsC at hx
    simp only [List.mem_cons] at hx
    rcases hx with rfl | rfl | rfl | rfl | rfl | rfl | hx
    · exact hw _ (by simp)
    · exact hw _ (by simp)
    · exact hw _ (by simp)
    · exact ⟨by omega, by omega⟩
    · exact ⟨by omega, by omega⟩
    · exact ⟨by omega, by omega⟩
    · exact hw _ (by simp [hx]))
  have HR := Lib.hid hr
  have HL := Lib.hid hl
  clear hr hl hw ht
  have HK := Lib.hid (KeptK.new w 46 (kList nu se sq z p b (.slice (some ⟨B, o, none⟩) n c)))
  go_enter Tryz.func40, Tryz.ntmps40
  go_wp2_with fail
  refine (rkright_is nu se sq z p b (some ⟨B, o, none⟩) n c _).mono ?_
  rintro r w1 ⟨rfl, hb⟩
  have HK1 := Lib.hid (HK.out.up hb)
  clear hb HK
  rw [h]
  clear h
  have k0 : w1.cell? ⟨w.heap.size, 0, none⟩ = some (.int .u32 nu) := HK1.out.2.cell 0 (by simp)
  have k1 : w1.cell? ⟨w.heap.size, 1, none⟩ = some (.int .u32 se) := HK1.out.2.cell 1 (by simp)
  have k2 : w1.cell? ⟨w.heap.size, 2, none⟩ = some (.int .u32 sq) := HK1.out.2.cell 2 (by simp)
  have k3 : w1.cell? ⟨w.heap.size, 3, none⟩ = some (.int .i64 z) := HK1.out.2.cell 3 (by simp)
  have k4 : w1.cell? ⟨w.heap.size, 4, none⟩ = some (.int .i64 p) := HK1.out.2.cell 4 (by simp)
  have k5 : w1.cell? ⟨w.heap.size, 5, none⟩ = some (.int .i64 b) := HK1.out.2.cell 5 (by simp)
  have k6 : w1.cell? ⟨w.heap.size, 6, none⟩ = some (.slice (some ⟨B, o, none⟩) n c) := HK1.out.2.cell 6 (by simp)
  have HN6 : Hid (OwnG (w1.alloc (.cells #[.int .u32 nu, .int .u32 se, .int .u32 sq, .int .u32 z, .int .u32 p, .int .u32 b] 35)) (w.heap.size + 1) 35 w1.heap.size 6 (u32s [nu, se, sq, z, p, b])) := Lib.hid (OwnG.new w1 (w.heap.size + 1) 35 (u32s [nu, se, sq, z, p, b]) (by have := lt_of_block HK1.out.2; omega) (by simp [u32s]))
  have hlb := lt_of_block HK1.out.2
  go_wp2_with (first
    | (at_builtin; refine appG _ rfl (.tmp 30) (.tmp 32) 38 35 (.int .u32 0) 4 rfl Tryz.underlying38 infoU32 (by decide) (by decide) (w.heap.size + 1) w1.heap.size 6 6 n c (u32s [nu, se, sq, z, p, b]) (u32s dir) ⟨B, o, none⟩ rfl HN6.out ?h11 rfl ?h12 ?h1src (one_u32s _) ?h13 ?h14 ?h15 ?h16; (case h11 => simp [u32s]); (case h12 => rw [u32s_len]; exact HL.out); (case h13 => omega); (case h14 => omega); (case h15 => simp; omega); (case h1src => (exact RdV.src ((HR.out.below HK1.out.1).below (Below.alloc (Below.refl _ _) HK1.out.1.size _)))); intro g4 cap4 w4 ho hg hgg; have HO4 := Lib.hid ho; have HG4 := Lib.hid hg; clear ho hg HN6)
    | fail)
  obtain ⟨ns, hns⟩ : ∃ ns, numsC nu se sq z p b dir = ns := ⟨_, rfl⟩
  have HNS := Lib.hid hns
  have hnl : ns.length = 6 + n := by rw [← hns, ← HL.out]; simp [numsC]; omega
  have HO4' : Hid (OwnG w4 (w.heap.size + 1) 35 g4 cap4 (u32s ns)) := Lib.hid (by
    have := HO4.out
    rwa [show u32s [nu, se, sq, z, p, b] ++ u32s dir = u32s ns by rw [← hns]; simp [u32s, numsC]] at this)
  have HB4 : Hid (Below w.heap.size w w4) := Lib.hid ((HK1.out.1.alloc HK1.out.1.size _).grown HG4.out (HK1.out.1.alloc HK1.out.1.size _).size (fun j hj => by have := Option.some.inj hj; omega))
  rw [hns] at HWN
  clear HO4 HG4 HK1 hns k0 k1 k2 k3 k4 k5 k6 HR hgg hlb
  have hg4 := HO4'.out.mem
  have HE := Lib.hid (Own8.none w4 w4.heap.size (Nat.le_refl _))
  have HB5 := Lib.hid (HB4.out.alloc HB4.out.size (.cells #[] 5))
  have HO5 := Lib.hid (HO4'.out.rise (Below.alloc (Below.refl w4.heap.size w4) (Nat.le_refl _) (.cells #[] 5)))
  clear HO4' HB4
  go_wp2_with fail
  obtain ⟨b5, hb5⟩ : ∃ b5, w4.heap.size = b5 := ⟨_, rfl⟩
  obtain ⟨w5, hw5⟩ : ∃ w5 : World, w5 = w4.alloc (.cells #[] 5) := ⟨_, rfl⟩
  rw [← hw5] at HE HB5 HO5 ⊢
  rw [hb5] at HE hg4 ⊢
  clear hw5 hb5
  go_loopg [5, 6] (6 + n) (fun k s x wr => ∃ i g cap : Nat, i ≤ 6 + n ∧ k = 6 + n - i ∧ x = .int .i64 i ∧ s = .slice (some ⟨g, 0, none⟩) (4 * i) cap ∧ Own8 wr b5 g cap (flatM (ns.take i)) ∧ OwnG wr (w.heap.size + 1) 35 g4 cap4 (u32s ns) ∧ Below w.heap.size w wr)
  case atStart => exact ⟨0, b5, 0, by omega, by omega, rfl, rfl, HE.out, HO5.out, HB5.out⟩
  case round =>
    clear HE HB5 HO5
    obtain ⟨i, g, cap, hi, hk, rfl, rfl, ho, ho4, hb⟩ := hrel
    have HO := Lib.hid ho
    have HO4 := Lib.hid ho4
    have HB := Lib.hid hb
    have HK := Lib.hid hk
    clear ho ho4 hb hk
    by_cases hlt : i < 6 + n
    · have hln : i < ns.length := by omega
      have c0 := HO4.out.cell i (by rw [u32s_len]; omega)
      rw [u32s_get] at c0
      have HF := Lib.hid (flat_snoc hln)
      have HN := Lib.hid (HWN.out _ (List.getElem_mem hln))
      have HLL : Hid ((flatM (ns.take i)).length = 4 * i) := Lib.hid (by rw [flatM_len]; simp; omega)
      generalize ns[i] = v at *
      go_wp2_with fail
      refine (four_is v _ HN.out).mono ?_
      rintro r w' ⟨rfl, rfl⟩
      have HB2 := Lib.hid (HB.out.alloc HB.out.size (fourObj v))
      have HO2 := Lib.hid (HO.out.rise (Below.alloc (Below.refl wr.heap.size wr) (Nat.le_refl _) (fourObj v)))
      have HO42 := Lib.hid (HO4.out.rise (Below.alloc (Below.refl wr.heap.size wr) (Nat.le_refl _) (fourObj v)))
      have HM := Lib.hid HO.out.mem
      clear HB HO4 c0
      go_wp2_with (first
        | (at_builtin; refine app8 _ rfl (.tmp 41) (.tmp 46) rfl b5 (wr.heap.size + 1) g cap (4 * i) 4 4 (flatM (ns.take i)) (four v) (some ⟨wr.heap.size, 0, none⟩) rfl HO2.out HLL.out rfl (rd_four v wr) rfl (fun h => by cases h) ?h21 ?h22 ?h23 ?h24; (case h21 => omega); (case h22 => omega); (case h23 => have := HM.out; simp; omega); intro g3 cap3 w3 ho hg; have HO3 := Lib.hid ho; have HB3 := Lib.hid (HB2.out.grown hg HB2.out.size (fun j hj => by have := Option.some.inj hj; have := HM.out.1; omega)); have HO43 := Lib.hid (HO42.out.kept hg (fun e => by have := Option.some.inj e; have := HM.out.1; omega)); clear ho hg HB2 HO2 HO42 HM HO)
        | fail)
      go_roundg (6 + n - (i + 1))
      case rel => exact ⟨i + 1, g3, cap3, by omega, rfl, by go_num, by rw [Nat.mul_add], by rw [← HF.out]; exact HO3.out, HO43.out, HB3.out⟩
      case measure => have := HK.out; omega
    · obtain rfl : i = 6 + n := by omega
      rw [List.take_of_length_le (by omega)] at HO
      clear HO4 HK HWN
      obtain ⟨m, hm⟩ : ∃ m, 4 * (6 + n) = m := ⟨_, rfl⟩
      have hfl : (flatM ns).length = m := by rw [flatM_len, hnl, hm]
      have hmb : m ≤ 88 ∧ 28 ≤ m := by omega
      rw [hm]
      clear hm
      have HFL := Lib.hid hfl
      obtain ⟨sm, hsm⟩ : ∃ sm, sumN (flatM ns) = sm := ⟨_, rfl⟩
      have HSM := Lib.hid hsm
      have hsb := sumN_bd (flatM ns)
      rw [hsm] at hsb
      have HSW : Hid (Word sm) := Lib.hid ⟨hsb.1, by omega⟩
      have HX := Lib.hid (byt_flatM ns)
      clear hfl hsm hsb
      obtain ⟨wo, rfl⟩ : ∃ wo : World, wo = wr := ⟨_, rfl⟩
      go_wp2_with fail
      refine (rof_at HX.out HO.out.rd HFL.out (by omega) HSM.out).mono ?_
      rintro r w' ⟨rfl, rfl⟩
      go_wp2_with fail
      refine (four_is sm _ HSW.out).mono ?_
      rintro r w' ⟨rfl, rfl⟩
      have HB2 := Lib.hid (HB.out.alloc HB.out.size (fourObj sm))
      have HO2 := Lib.hid (HO.out.rise (Below.alloc (Below.refl wo.heap.size wo) (Nat.le_refl _) (fourObj sm)))
      have HM := Lib.hid HO.out.mem
      clear HB
      go_wp2_with (first
        | (at_builtin; refine app8 _ rfl (.tmp 48) (.tmp 51) rfl b5 (wo.heap.size + 1) g cap m 4 4 (flatM ns) (four sm) (some ⟨wo.heap.size, 0, none⟩) rfl HO2.out HFL.out rfl (rd_four sm wo) rfl (fun h => by cases h) ?h31 ?h32 ?h33 ?h34; (case h31 => omega); (case h32 => omega); (case h33 => have := HM.out; simp; omega); intro g3 cap3 w3 ho hg; have HO3 := Lib.hid ho; have HB3 := Lib.hid (HB2.out.grown hg HB2.out.size (fun j hj => by have := Option.some.inj hj; have := HM.out.1; omega)); clear ho hg HB2 HO2 HM HO)
        | fail)
      obtain ⟨pre, hpre⟩ : ∃ pre, flatM ns ++ four sm = pre := ⟨_, rfl⟩
      have hpl : pre.length = m + 4 := by rw [← hpre, List.length_append, HFL.out]; rfl
      obtain ⟨pl, hpll⟩ : ∃ pl, (16 - (m + 4) % 16) % 16 = pl := ⟨_, rfl⟩
      have HEN : Hid (encC nu se sq z p b dir = pre ++ List.replicate pl 0) := Lib.hid (by
        unfold encC bodyC
        rw [HNS.out, HSM.out, hpre]
        unfold padB
        rw [hpl, hpll])
      rw [hpre] at HO3
      clear hpre HSM HX HSW HFL hnl
      obtain ⟨wo2, rfl⟩ : ∃ wo2 : World, wo2 = w3 := ⟨_, rfl⟩
      go_loopg [5] pl (fun q s wr => ∃ k g cap : Nat, k ≤ pl ∧ q = pl - k ∧ s = .slice (some ⟨g, 0, none⟩) (m + 4 + k) cap ∧ Own8 wr b5 g cap (pre ++ List.replicate k 0) ∧ Below w.heap.size w wr)
      case atStart => exact ⟨0, g3, cap3, by omega, by omega, rfl, by simpa using HO3.out, HB3.out⟩
      case round =>
        clear HO3 HB3
        obtain ⟨k, g5, cap5, hk, hq, rfl, ho, hb⟩ := hrel
        have HO := Lib.hid ho
        have HB := Lib.hid hb
        have HQ := Lib.hid hq
        clear ho hb hq
        have hlk : (pre ++ List.replicate k 0).length = m + 4 + k := by simp [hpl]
        have HLK := Lib.hid hlk
        clear hlk
        by_cases hlt : k < pl
        · have q1 : (((m + 4 + k : Nat) : Int) % 16 != 0) = true := by simp; omega
          have HB2 := Lib.hid (HB.out.alloc HB.out.size (.cells #[.int .u8 0] 5))
          have HO2 := Lib.hid (HO.out.rise (Below.alloc (Below.refl wr.heap.size wr) (Nat.le_refl _) (.cells #[.int .u8 0] 5)))
          have HZ := Lib.hid (Own8.one wr wr.heap.size 0 (Nat.le_refl _)).rd
          have HM := Lib.hid HO.out.mem
          go_wp2_with (first
            | (at_builtin; refine app8 _ rfl (.tmp 57) (.tmp 58) rfl b5 _ g5 cap5 (m + 4 + k) 1 1 (pre ++ List.replicate k 0) [0] (some ⟨wr.heap.size, 0, none⟩) rfl HO2.out HLK.out rfl HZ.out rfl (fun h => by cases h) ?h41 ?h42 ?h43 ?h44; (case h41 => omega); (case h42 => omega); (case h43 => have := HM.out; simp; omega); intro g6 cap6 w6 ho hg; have HO6 := Lib.hid ho; have HB6 := Lib.hid (HB2.out.grown hg HB2.out.size (fun j hj => by have := Option.some.inj hj; have := HM.out.1; omega)); clear ho hg HB2 HO2 HM HO)
            | fail)
          go_roundg (pl - (k + 1))
          case rel => exact ⟨k + 1, g6, cap6, by omega, rfl, rfl, by rw [List.replicate_succ']; have := HO6.out; rwa [List.append_assoc] at this, HB6.out⟩
          case measure => have := HQ.out; omega
        · obtain rfl : k = pl := by omega
          have q1 : (((m + 4 + k : Nat) : Int) % 16 != 0) = false := by simp; omega
          obtain ⟨K, hK⟩ : ∃ K, m + 4 + k = 16 * K := ⟨(m + 4 + k) / 16, by omega⟩
          have hKb : 1 ≤ K ∧ K ≤ 8 := by omega
          rw [hK] at HLK
          obtain ⟨enc, henc⟩ : ∃ enc, pre ++ List.replicate k 0 = enc := ⟨_, rfl⟩
          rw [henc] at HO HLK HEN
          have HBK : Hid (blocksC nu se sq z p b dir = chunks K enc) := Lib.hid (by
            unfold blocksC
            rw [HEN.out, HLK.out]
            congr 1
            omega)
          have hc5 := HO.out.cap
          rw [HLK.out] at hc5
          have HM5 := HO.out.mem
          rw [hK]
          clear henc HEN HQ hpl hpll
          have HO7 := Lib.hid (OwnG.new wr wr.heap.size 61 [] (Nat.le_refl _) (by simp))
          have HB7 := Lib.hid (HB.out.alloc HB.out.size (.cells #[] 61))
          have HE7 := Lib.hid (HO.out.rise (Below.alloc (Below.refl wr.heap.size wr) (Nat.le_refl _) (.cells #[] 61)))
          clear HO HB
          go_wp2_with fail
          obtain ⟨b7, hb7⟩ : ∃ b7, wr.heap.size = b7 := ⟨_, rfl⟩
          obtain ⟨w7, hw7⟩ : ∃ w7 : World, w7 = wr.alloc (.cells #[] 61) := ⟨_, rfl⟩
          rw [show wr.alloc (.cells ([] : List Value).toArray 61) = w7 from hw7.symm] at HO7
          rw [← hw7] at HB7 HE7 ⊢
          rw [hb7] at HO7 HM5 ⊢
          clear hw7 hb7
          go_loopg [7, 8] K (fun q s x wr => ∃ (j g7 cap7 : Nat) (vs : List Value), j ≤ K ∧ q = K - j ∧ x = .int .i64 ((16 * j : Nat) : Int) ∧ s = .slice (some ⟨g7, 0, none⟩) j cap7 ∧ vs.length = j ∧ OwnG wr b7 61 g7 cap7 vs ∧ Elems wr g7 vs ((chunks K enc).take j) ∧ Own8 wr b5 g5 cap5 enc ∧ Below w.heap.size w wr)
          case atStart => exact ⟨0, b7, 0, [], by omega, by omega, rfl, rfl, rfl, HO7.out, Elems.nil, HE7.out, HB7.out⟩
          case round =>
            clear HO7 HE7 HB7
            obtain ⟨j, g7, cap7, vs, hj, hq, rfl, rfl, hvl, ho, hel, he, hb⟩ := hrel
            have HV := Lib.hid ho
            have HEL := Lib.hid hel
            have HEN := Lib.hid he
            have HB := Lib.hid hb
            have HQ := Lib.hid hq
            have HVL := Lib.hid hvl
            clear ho hel he hb hq hvl
            by_cases hlt : j < K
            · obtain ⟨t, ht⟩ : ∃ t, 16 * j = t := ⟨_, rfl⟩
              have htb : t + 16 ≤ 16 * K := by omega
              have hcd : (cap5 = t) = False := by simp; omega
              have hsub : t + 16 - t = 16 := by omega
              have HCH : Hid (((enc.drop t).take 16).length = 16) := Lib.hid (by simp [HLK.out]; omega)
              have HSN : Hid ((chunks K enc).take j ++ [(enc.drop t).take 16] = (chunks K enc).take (j + 1)) := Lib.hid (by
                rw [List.take_succ_eq_append_getElem (l := chunks K enc) (i := j) (by rw [chunks_len]; exact hlt), chunks_get hlt, ht])
              rw [ht]
              obtain ⟨ch, hch⟩ : ∃ ch, (enc.drop t).take 16 = ch := ⟨_, rfl⟩
              have HRC : Hid (Rd wr wr.heap.size (some ⟨g5, t, none⟩) ch) := Lib.hid (by
                rw [← hch]
                have := (HEN.out.rd.drop t).take 16
                rwa [Nat.zero_add] at this)
              rw [hch] at HCH HSN
              clear hch
              have HA := Lib.hid (Own8.none wr wr.heap.size (Nat.le_refl _))
              have HBA := Lib.hid (Below.alloc (Below.refl wr.heap.size wr) (Nat.le_refl _) (.cells #[] 5))
              have HMV := Lib.hid HV.out.mem
              go_wp2_with (first
                | (at_builtin; refine app8 _ rfl (.tmp 68) (.tmp 73) rfl wr.heap.size wr.heap.size wr.heap.size 0 0 16 (cap5 - t) [] ch (some ⟨g5, t, none⟩) rfl HA.out rfl ?h5x (HRC.out.below HBA.out) HCH.out (fun h => by cases h) ?h51 ?h52 ?h53 ?h54; (case h5x => show Value.slice (some ⟨g5, t, none⟩) (t + 16 - t) (cap5 - t) = _; rw [hsub]); (case h51 => omega); (case h52 => omega); (case h53 => simp); intro g8 cap8 w8 ho hg; have HO8 := Lib.hid (show Own8 _ _ _ _ ch from ho); have HB8 := Lib.hid (HBA.out.grown hg HBA.out.size (fun j hj => by have := Option.some.inj hj; omega)); clear ho hg HA HBA)
                | (at_builtin; refine appG _ rfl (.tmp 67) (.tmp 75) 60 61 (.slice none 0 0) 24 rfl Tryz.underlying60 infoRow rfl (by decide) b7 g7 cap7 j 1 1 vs [.slice (some ⟨g8, 0, none⟩) 16 cap8] ⟨w8.heap.size, 0, none⟩ rfl (OwnG.rise HV.out (HB8.out.alloc HB8.out.size _)) HVL.out rfl rfl ?h6s ?h6o ?h61 ?h62 ?h63 ?h64; (case h6s => intro j hj; obtain rfl : j = 0 := (by simp at hj; omega); simp [Addr.add]); (case h6o => intro u hu; simp at hu; subst hu; rfl); (case h61 => omega); (case h62 => omega); (case h63 => have := HB8.out.size; have := HMV.out; simp; omega); intro g9 cap9 w9 ho hg hgg; have HV9 := Lib.hid ho; have HG9 := Lib.hid hg; have HGG := Lib.hid hgg; clear ho hg hgg)
                | fail)
              have HBX := Lib.hid (HB8.out.alloc HB8.out.size (.cells #[.slice (some ⟨g8, 0, none⟩) 16 cap8] 61))
              have h8 := HO8.out.mem
              have h8c := HO8.out.cap
              have h8s := HB8.out.size
              have hmv := HMV.out
              have hws := HB.out.size
              have HEL9 : Hid (Elems w9 g9 (vs ++ [.slice (some ⟨g8, 0, none⟩) 16 cap8]) ((chunks K enc).take (j + 1))) := Lib.hid (by
                have := (HEL.out.up HBX.out).snoc (xs := ch) (gn := g8) (cn := cap8) HG9.out HGG.out (HO8.out.rise (Below.alloc (Below.refl w8.heap.size w8) (Nat.le_refl _) _)).rd h8c (by omega) (by rw [World.size_alloc]; omega)
                rw [HCH.out] at this
                rw [← HSN.out]
                exact this)
              have HEN9 : Hid (Own8 w9 b5 g5 cap5 enc) := Lib.hid ((HEN.out.rise HBX.out).kept HG9.out (fun e => by have := Option.some.inj e; omega))
              have HB9 : Hid (Below w.heap.size w w9) := Lib.hid ((HB.out.trans (HBX.out.mono hws)).grown HG9.out (HB.out.trans (HBX.out.mono hws)).size (fun j hj => by have := Option.some.inj hj; omega))
              go_roundg (K - (j + 1))
              case rel => exact ⟨j + 1, g9, cap9, vs ++ [.slice (some ⟨g8, 0, none⟩) 16 cap8], by omega, rfl, by go_num, rfl, by rw [List.length_append, HVL.out]; rfl, HV9.out, HEL9.out, HEN9.out, HB9.out⟩
              case measure => have := HQ.out; omega
            · obtain rfl : j = K := by omega
              have hcv := HV.out.cap
              rw [HVL.out] at hcv
              rw [List.take_of_length_le (by rw [chunks_len]; omega)] at HEL
              go_wp2_with fail
              go_ret2
              refine ⟨.slice (some ⟨g7, 0, none⟩) j cap7, rfl, ?_, HB.out⟩
              rw [HBK.out]
              exact ⟨some ⟨g7, 0, none⟩, cap7, vs, by rw [chunks_len], by rw [chunks_len]; exact hcv, HV.out.rdV, HEL.out.rows⟩
theorem rkblocks_all {A : Option Addr} {dir : List Int} {n c : Nat} {w : World} (nu se sq z p b : Int) (hr : RdV w w.heap.size A (u32s dir)) (hl : dir.length = n) (hw : Words (nu :: se :: sq :: dir)) :
    Calls Tryz.prog 40 #[kV nu se sq z p b (.slice A n c)] w (BlocksIs (.int .i64 (if rightC z p b n = true then 0 else 1)) (if rightC z p b n = true then blocksC nu se sq z p b dir else []) w) := by
  by_cases h : rightC z p b n = true
  · have hn := (right_bd h).2.2.2.2.1
    obtain ⟨B, o, rfl, _, _⟩ := hr (by rw [u32s_len]; omega)
    rw [if_pos h, if_pos h]
    exact rkblocks_ok nu se sq z p b B o dir n c w hr hl h hw
  · rw [if_neg h, if_neg h]
    exact rkblocks_no nu se sq z p b A n c w (by simpa using h)
end Go.Proofs.YthmpimjmajoimaaGreatDoor
