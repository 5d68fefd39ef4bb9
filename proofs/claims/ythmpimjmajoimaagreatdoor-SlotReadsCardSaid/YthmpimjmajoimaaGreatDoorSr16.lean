/-
  The document's Blocks of a checkpoint.
  Package ckpt's lay: the bytes of numbers, in a row of the call's own.
  Package ckpt's whole and empty: slices.ContainsFunc and IndexFunc at a function that reads alone.
  platelayerlaw06's own, same and large.
-/
import Derived.Test.YthmpimjmajoimaaGreatDoorSr04
import Derived.Test.YthmpimjmajoimaaGreatDoorSr15
namespace Go.Proofs.YthmpimjmajoimaaGreatDoor
open Go.RowKit

/-- The value v is a row of rows of bytes. -/
def RowsAt (w : World) (v : Value) (l : List (List Int)) : Prop := ∃ A c vs, v = .slice A l.length c ∧ l.length ≤ c ∧ RdV w w.heap.size A vs ∧ RdR w vs l
theorem RowsAt.up {w u : World} {v : Value} {l : List (List Int)} (h : RowsAt w v l) (hb : Below w.heap.size w u) : RowsAt u v l := by
  obtain ⟨A, c, vs, e, hc, hv, hr⟩ := h
  exact ⟨A, c, vs, e, hc, hv.up hb, hr.up hb⟩
theorem RowsAt.nil (w : World) : RowsAt w (.slice none 0 0) [] := ⟨none, 0, [], rfl, by simp, RdV.nil, RdR.nil⟩
theorem infoU32 : (Tryz.prog.info? 35).map (fun i => (i.zero, i.size, i.bytes)) = some (some (.int .u32 0), 1, 4) := by kernel_rfl
theorem one_u32s (ns : List Int) : ∀ u ∈ u32s ns, u.oneCell' = true := by
  intro u hu
  simp only [u32s, List.mem_map] at hu
  obtain ⟨y, _, rfl⟩ := hu
  rfl
theorem RdV.src {w : World} {B b o : Nat} {vs : List Value} (h : RdV w B (some ⟨b, o, none⟩) vs) : ∀ j (hj : j < vs.length), w.cell? ((⟨b, o, none⟩ : Addr).add j) = some vs[j] := by
  intro j hj
  obtain ⟨b', o', hA, _, hc⟩ := h (by omega)
  have hA := Option.some.inj hA
  injection hA with e1 e2
  subst e1 e2
  have := hc j hj
  rcases j with _ | j
  · simpa [Addr.add] using this
  · simpa [Addr.add] using this
theorem flat_snoc {ns : List Int} {i : Nat} (h : i < ns.length) : flatM (ns.take i) ++ four ns[i] = flatM (ns.take (i + 1)) := by
  rw [List.take_succ_eq_append_getElem h]
  unfold flatM
  rw [List.flatMap_append]
  simp only [List.flatMap_cons, List.flatMap_nil, List.append_nil]
theorem byt_flatM (ns : List Int) : Byt (flatM ns) := by
  induction ns with
  | nil => exact Byt.nil
  | cons n ns ih => exact (byt_four n).app ih
/-- What a geometry that may be is bounded by. -/
theorem right_bd {z p b : Int} {n : Nat} (h : rightC z p b n = true) : (11 ≤ z ∧ z ≤ 24) ∧ (4 ≤ p ∧ p ≤ 16) ∧ (1 ≤ b ∧ b ≤ 64) ∧ (n : Int) = tab b ∧ 1 ≤ n ∧ n ≤ 16 := by
  unfold rightC at h
  simp only [Bool.and_eq_true, decide_eq_true_eq] at h
  obtain ⟨h1, h2⟩ := h
  unfold rightB at h1
  simp only [decide_eq_true_eq] at h1
  have h3 := (bnd_bd z p).2
  have h4 := (bnd_room (z := z) (p := p) (by omega)).1
  have h5 := tab_le (n := b) (by omega) (by omega)
  have h6 := insB_iff.1 h4
  omega

theorem rof_at {A : Option Addr} {xs : List Int} {n c : Nat} {m : Int} {w : World} (hx : Byt xs) (hr : Rd w w.heap.size A xs) (hl : xs.length = n) (hn : n ≤ 20000) (hm : sumN xs = m) : Calls Tryz.prog 81 #[.slice A n c] w (NumIs m w) := by
  subst hl hm
  exact rof_is A xs c w hx hr hn
theorem Rd.kept {w w' : World} {g o : Nat} {xs : List Int} {row : Option Nat} (h : Rd w w.heap.size (some ⟨g, o, none⟩) xs) (hg : w.grownBy w' row) (hne : some g ≠ row) : Rd w' w'.heap.size (some ⟨g, o, none⟩) xs := by
  intro hn
  obtain ⟨b', o', hA, hlt, hc⟩ := h hn
  have hA' := Option.some.inj hA
  injection hA' with e1 e2
  subst e1 e2
  exact ⟨g, o, rfl, Nat.lt_of_lt_of_le hlt hg.size, fun i hi => hg.cell (hc i hi) hne⟩
/-- Rows of bytes in blocks of their own, none of them block g7. -/
def Elems (w : World) (g7 : Nat) (vs : List Value) (l : List (List Int)) : Prop :=
  vs.length = l.length ∧ ∀ i (h : i < vs.length) (h2 : i < l.length), ∃ gi ci, vs[i] = .slice (some ⟨gi, 0, none⟩) l[i].length ci ∧ l[i].length ≤ ci ∧ Rd w w.heap.size (some ⟨gi, 0, none⟩) l[i] ∧ gi ≠ g7 ∧ gi < w.heap.size
theorem Elems.nil {w : World} {g7 : Nat} : Elems w g7 [] [] := ⟨rfl, fun i h => by simp at h⟩
theorem Elems.rows {w : World} {g7 : Nat} {vs : List Value} {l : List (List Int)} (h : Elems w g7 vs l) : RdR w vs l :=
  ⟨h.1, fun i h1 h2 => by obtain ⟨gi, ci, e, hc, hr, _⟩ := h.2 i h1 h2; exact ⟨_, ci, e, hc, hr⟩⟩
theorem Elems.up {w u : World} {g7 : Nat} {vs : List Value} {l : List (List Int)} (h : Elems w g7 vs l) (hb : Below w.heap.size w u) : Elems u g7 vs l :=
  ⟨h.1, fun i h1 h2 => by obtain ⟨gi, ci, e, hc, hr, hne, hlt⟩ := h.2 i h1 h2; exact ⟨gi, ci, e, hc, rd_up hr hb, hne, Nat.lt_of_lt_of_le hlt hb.size⟩⟩
/-- One row more, where the row of rows has grown. -/
theorem Elems.snoc {w w' : World} {g7 g' gn cn : Nat} {vs : List Value} {l : List (List Int)} {xs : List Int} (h : Elems w g7 vs l) (hg : w.grownBy w' (some g7)) (hg' : g' = g7 ∨ g' = w.heap.size) (hx : Rd w w.heap.size (some ⟨gn, 0, none⟩) xs) (hc : xs.length ≤ cn) (hne : gn ≠ g7) (hlt : gn < w.heap.size) :
    Elems w' g' (vs ++ [.slice (some ⟨gn, 0, none⟩) xs.length cn]) (l ++ [xs]) := by
  refine ⟨by simp [h.1], fun i h1 h2 => ?_⟩
  by_cases hi : i < vs.length
  · have hi2 : i < l.length := by rw [← h.1]; exact hi
    obtain ⟨gi, ci, e, hc, hr, hn, hl⟩ := h.2 i hi hi2
    rw [List.getElem_append_left hi, List.getElem_append_left hi2]
    exact ⟨gi, ci, e, hc, hr.kept hg (fun e => hn (Option.some.inj e)), by rcases hg' with rfl | rfl <;> omega, Nat.lt_of_lt_of_le hl hg.size⟩
  · have e1 : i = vs.length := by simp at h1; omega
    subst e1
    have e2 : vs.length = l.length := h.1
    rw [List.getElem_append_right (by omega), List.getElem_append_right (by omega)]
    simp only [e2, Nat.sub_self, List.getElem_cons_zero]
    exact ⟨gn, cn, rfl, hc, hx.kept hg (fun e => hne (Option.some.inj e)), by rcases hg' with rfl | rfl <;> omega, Nat.lt_of_lt_of_le hlt hg.size⟩
end Go.Proofs.YthmpimjmajoimaaGreatDoor
namespace Go.Proofs.YthmpimjmajoimaaGreatDoor
open Go.RowKit

/-- The value v is the call's own row of these bytes; nil, where there are none. -/
def R8 (w : World) (base : Nat) (v : Value) (xs : List Int) : Prop := w.ownsRow base 5 1 v xs.length (cellsOf8 xs)
theorem R8.nil (w : World) (base : Nat) : R8 w base (.slice none 0 0) [] := ⟨by simp [cellsOf8], .inl ⟨rfl, rfl⟩⟩
theorem R8.rise {w w' : World} {base : Nat} {v : Value} {xs : List Int} (h : R8 w base v xs) (hb : Below w.heap.size w w') : R8 w' base v xs :=
  ⟨h.1, h.2.imp id fun ⟨g', c', cur, hv, hg, hc, r⟩ => ⟨g', c', cur, hv, hg, (hb.block g' (lt_of_block hc)).trans hc, r⟩⟩
theorem R8.own {w : World} {base : Nat} {v : Value} {xs : List Int} (h : R8 w base v xs) : ∀ j, v.ownBlock = some j → base ≤ j := by
  rcases h.2 with ⟨rfl, _⟩ | ⟨g, cap, cur, rfl, hb, _⟩
  · intro j hj
    cases hj
  · intro j hj
    simp [Value.ownBlock] at hj
    omega
theorem lay_put {L : List Int} {x k : Int} {j : Nat} (h : (four x)[j]? = some k) : (L ++ (four x).take j) ++ [k] = L ++ (four x).take (j + 1) := by
  obtain ⟨hj, rfl⟩ := List.getElem?_eq_some_iff.1 h
  rw [List.append_assoc, List.take_succ_eq_append_getElem hj]
theorem four_at (x : Int) (h : Word x) : (four x)[0]? = some (x % 256) ∧ (four x)[1]? = some (x / 256 % 256) ∧ (four x)[2]? = some (x / 65536 % 256) ∧ (four x)[3]? = some (x / 16777216) := by
  obtain ⟨h0, h1⟩ := h
  have e : x / 16777216 = x / 16777216 % 256 := by omega
  rw [e]
  exact ⟨rfl, rfl, rfl, rfl⟩
theorem rd_one (w : World) (k : Int) : Rd (w.alloc (.cells #[.int .u8 k] 5)) (w.heap.size + 1) (some ⟨w.heap.size, 0, none⟩) [k] := by
  intro _
  refine ⟨w.heap.size, 0, rfl, by omega, fun i hi => ?_⟩
  have hi' : i < 1 := hi
  obtain rfl : i = 0 := by omega
  simp

def LayIs (xs : List Int) (w : World) (r : Ending) (w' : World) : Prop := ∃ v, r = .returned v ∧ R8 w' w.heap.size v xs ∧ Below w.heap.size w w'
set_option maxHeartbeats 2000000 in
set_option maxRecDepth 100000 in
theorem lay_any {A : Option Addr} {ns : List Int} {c : Nat} {w : World} (hr : RdV w w.heap.size A (u32s ns)) (hW : Words ns) (hn : ns.length ≤ 1000) : Calls Tryz.prog 122 #[.slice A ns.length c] w (LayIs (flatM ns) w) := by
  have HR := Lib.hid hr
  have HW := Lib.hid hW
  clear hr hW
  go_enter Tryz.func122, Tryz.ntmps122
  go_wp2_with fail
  go_loopg [3, 9] ns.length (fun k s' x wr => ∃ (i : Nat) (s : Value), i ≤ ns.length ∧ k = ns.length - i ∧ x = .int .i64 i ∧ s = s' ∧ R8 wr w.heap.size s (flatM (ns.take i)) ∧ Below w.heap.size w wr)
  case atStart => exact ⟨0, _, by omega, by omega, rfl, rfl, R8.nil _ _, Below.refl _ _⟩
  case round =>
    obtain ⟨i, s, hi, hk, rfl, rfl, ho, hb⟩ := hrel
    have HK := Lib.hid hk
    have HO := Lib.hid ho
    have HB := Lib.hid hb
    clear hk ho hb
    by_cases hlt : i < ns.length
    · obtain ⟨b, o, rfl, hbl, hcell⟩ := (HR.out.below HB.out) (by rw [u32s_len]; omega)
      have c0 := hcell i (by rw [u32s_len]; exact hlt)
      rw [u32s_get] at c0
      clear hcell
      have HF := Lib.hid (flat_snoc hlt)
      have HX := Lib.hid (HW.out _ (List.getElem_mem hlt))
      have HLL : Hid ((flatM (ns.take i)).length = 4 * i) := Lib.hid (by rw [flatM_len]; simp; omega)
      have hxw := HX.out
      obtain ⟨hx0, hx1⟩ := hxw
      generalize ns[i] = x at *
      generalize flatM (ns.take i) = L at *
      go_wp2_with fail
      obtain ⟨wo, rfl⟩ : ∃ wo : World, wo = wr := ⟨_, rfl⟩
      clear c0
      go_loopg [3, 13] 4 (fun k s' y wr => ∃ (j : Nat) (s : Value), j ≤ 4 ∧ k = 4 - j ∧ y = .int .i64 j ∧ s = s' ∧ R8 wr w.heap.size s (L ++ (four x).take j) ∧ Below w.heap.size w wr)
      case atStart => exact ⟨0, _, by omega, by omega, rfl, rfl, by rw [List.take_zero, List.append_nil]; exact HO.out, HB.out⟩
      case round =>
        clear HO HB
        obtain ⟨j, s2, hj, hk, rfl, rfl, ho, hb⟩ := hrel
        have HK2 := Lib.hid hk
        have HO := Lib.hid ho
        have HB := Lib.hid hb
        clear hk ho hb
        by_cases hlt2 : j < 4
        · have HP := Lib.hid (four_at x HX.out)
          have HLJ : Hid ((L ++ (four x).take j).length ≤ 20000) := Lib.hid (by rw [List.length_append, HLL.out, List.length_take]; omega)
          have hj4 : j = 0 ∨ j = 1 ∨ j = 2 ∨ j = 3 := by omega
          clear hj hlt2
          rcases hj4 with rfl | rfl | rfl | rfl
          · have HOA := Lib.hid (HO.out.rise (Below.alloc (Below.refl wr.heap.size wr) (Nat.le_refl _) (.cells #[.int .u8 (x % 256)] 5)))
            have HBA := Lib.hid (HB.out.alloc HB.out.size (.cells #[.int .u8 (x % 256)] 5))
            go_wp2_with (first
              | (at_builtin; refine append_rd _ rfl (.tmp 16) (.tmp 22) rfl w.heap.size (wr.heap.size + 1) s2 (L ++ (four x).take 0) rfl HOA.out (some ⟨wr.heap.size, 0, none⟩) [x % 256] 1 rfl (rd_one wr _) (fun h => by cases h) ?h1a ?h1b ?_; (case h1a => have := HLJ.out; simp at this ⊢; omega); (case h1b => have := HB.out.size; simp; omega); intro v' w' zs hz ho hg; have HO1 := Lib.hid (show R8 _ _ _ (L ++ (four x).take (0 + 1)) from (lay_put (L := L) HP.out.1) ▸ hz.out ▸ ho); have HB1 := Lib.hid (HBA.out.grown hg HBA.out.size HO.out.own); clear hz ho hg HOA HBA HO HB)
              | fail)
            go_roundg (4 - (0 + 1))
            case rel => exact ⟨0 + 1, _, by omega, rfl, by go_num, rfl, HO1.out, HB1.out⟩
            case measure => have := HK2.out; omega
          · have HOA := Lib.hid (HO.out.rise (Below.alloc (Below.refl wr.heap.size wr) (Nat.le_refl _) (.cells #[.int .u8 (x / 256 % 256)] 5)))
            have HBA := Lib.hid (HB.out.alloc HB.out.size (.cells #[.int .u8 (x / 256 % 256)] 5))
            go_wp2_with (first
              | (at_builtin; refine append_rd _ rfl (.tmp 16) (.tmp 22) rfl w.heap.size (wr.heap.size + 1) s2 (L ++ (four x).take 1) rfl HOA.out (some ⟨wr.heap.size, 0, none⟩) [x / 256 % 256] 1 rfl (rd_one wr _) (fun h => by cases h) ?h2a ?h2b ?_; (case h2a => have := HLJ.out; simp at this ⊢; omega); (case h2b => have := HB.out.size; simp; omega); intro v' w' zs hz ho hg; have HO1 := Lib.hid (show R8 _ _ _ (L ++ (four x).take (1 + 1)) from (lay_put (L := L) HP.out.2.1) ▸ hz.out ▸ ho); have HB1 := Lib.hid (HBA.out.grown hg HBA.out.size HO.out.own); clear hz ho hg HOA HBA HO HB)
              | fail)
            go_roundg (4 - (1 + 1))
            case rel => exact ⟨1 + 1, _, by omega, rfl, by go_num, rfl, HO1.out, HB1.out⟩
            case measure => have := HK2.out; omega
          · have HOA := Lib.hid (HO.out.rise (Below.alloc (Below.refl wr.heap.size wr) (Nat.le_refl _) (.cells #[.int .u8 (x / 65536 % 256)] 5)))
            have HBA := Lib.hid (HB.out.alloc HB.out.size (.cells #[.int .u8 (x / 65536 % 256)] 5))
            go_wp2_with (first
              | (at_builtin; refine append_rd _ rfl (.tmp 16) (.tmp 22) rfl w.heap.size (wr.heap.size + 1) s2 (L ++ (four x).take 2) rfl HOA.out (some ⟨wr.heap.size, 0, none⟩) [x / 65536 % 256] 1 rfl (rd_one wr _) (fun h => by cases h) ?h3a ?h3b ?_; (case h3a => have := HLJ.out; simp at this ⊢; omega); (case h3b => have := HB.out.size; simp; omega); intro v' w' zs hz ho hg; have HO1 := Lib.hid (show R8 _ _ _ (L ++ (four x).take (2 + 1)) from (lay_put (L := L) HP.out.2.2.1) ▸ hz.out ▸ ho); have HB1 := Lib.hid (HBA.out.grown hg HBA.out.size HO.out.own); clear hz ho hg HOA HBA HO HB)
              | fail)
            go_roundg (4 - (2 + 1))
            case rel => exact ⟨2 + 1, _, by omega, rfl, by go_num, rfl, HO1.out, HB1.out⟩
            case measure => have := HK2.out; omega
          · have HOA := Lib.hid (HO.out.rise (Below.alloc (Below.refl wr.heap.size wr) (Nat.le_refl _) (.cells #[.int .u8 (x / 16777216)] 5)))
            have HBA := Lib.hid (HB.out.alloc HB.out.size (.cells #[.int .u8 (x / 16777216)] 5))
            go_wp2_with (first
              | (at_builtin; refine append_rd _ rfl (.tmp 16) (.tmp 22) rfl w.heap.size (wr.heap.size + 1) s2 (L ++ (four x).take 3) rfl HOA.out (some ⟨wr.heap.size, 0, none⟩) [x / 16777216] 1 rfl (rd_one wr _) (fun h => by cases h) ?h4a ?h4b ?_; (case h4a => have := HLJ.out; simp at this ⊢; omega); (case h4b => have := HB.out.size; simp; omega); intro v' w' zs hz ho hg; have HO1 := Lib.hid (show R8 _ _ _ (L ++ (four x).take (3 + 1)) from (lay_put (L := L) HP.out.2.2.2) ▸ hz.out ▸ ho); have HB1 := Lib.hid (HBA.out.grown hg HBA.out.size HO.out.own); clear hz ho hg HOA HBA HO HB)
              | fail)
            go_roundg (4 - (3 + 1))
            case rel => exact ⟨3 + 1, _, by omega, rfl, by go_num, rfl, HO1.out, HB1.out⟩
            case measure => have := HK2.out; omega
        · obtain rfl : j = 4 := by omega
          have HE : Hid (R8 wr w.heap.size s2 (flatM (ns.take (i + 1)))) := Lib.hid (HF.out ▸ HO.out)
          go_wp2_with fail
          go_roundg (ns.length - (i + 1))
          case rel => exact ⟨i + 1, _, by omega, rfl, by go_num, rfl, HE.out, HB.out⟩
          case measure => have := HK.out; omega
    · obtain rfl : i = ns.length := by omega
      rw [List.take_of_length_le (Nat.le_refl _)] at HO
      go_wp2_with fail
      go_ret
      exact ⟨s, rfl, HO.out, HB.out⟩
/-- .. of one number, or more. -/
def Lay1Is (m : Nat) (xs : List Int) (w : World) (r : Ending) (w' : World) : Prop := ∃ g cap, r = .returned (.slice (some ⟨g, 0, none⟩) m cap) ∧ Own8 w' w.heap.size g cap xs ∧ Below w.heap.size w w'
theorem lay_is {A : Option Addr} {ns : List Int} {n c m : Nat} {w : World} (hr : RdV w w.heap.size A (u32s ns)) (hl : ns.length = n) (hm : 4 * n = m) (hW : Words ns) (hn : n ≤ 1000) (h1 : 1 ≤ n) : Calls Tryz.prog 122 #[.slice A n c] w (Lay1Is m (flatM ns) w) := by
  subst hl hm
  refine (lay_any hr hW hn).mono ?_
  rintro r w' ⟨v, rfl, h, hb⟩
  obtain ⟨g, cap, rfl, ho⟩ := Own8.of h (by rw [flatM_len]; omega)
  refine ⟨g, cap, ?_, ho, hb⟩
  rw [flatM_len]
end Go.Proofs.YthmpimjmajoimaaGreatDoor
namespace Go.Proofs.YthmpimjmajoimaaGreatDoor
open Go.RowKit

theorem wholeA_is {x : List Int} {A : Option Addr} {n c : Nat} {w : World} (hl : x.length = n) : Calls Tryz.prog 130 #[.slice A n c] w (BoolIs (!decide (x.length = 16)) w) := by
  subst hl
  go_enter Tryz.func130, Tryz.ntmps130
  go_wp2_with fail
  go_ret
  refine ⟨ret_bool ?_, rfl⟩
  by_cases h : x.length = 16
  · simp [h]
  · have : ¬ ((x.length : Int) = 16) := by omega
    simp [h, this]
theorem emptyA_is (n : Int) (w : World) : Calls Tryz.prog 134 #[.int .u32 n] w (BoolIs (!decide (n = 0)) w) := by
  go_enter Tryz.func134, Tryz.ntmps134
  go_wp2_with fail
  go_ret
  refine ⟨ret_bool ?_, rfl⟩
  by_cases h : n = 0
  · simp [h]
  · simp [h]

/-- All rows have sixteen, up to k. -/
theorem all16_step {l : List (List Int)} {k : Nat} (hk : k < l.length) (h : (l.take k).all (fun b => decide (b.length = 16)) = true) (h2 : l[k].length = 16) : (l.take (k + 1)).all (fun b => decide (b.length = 16)) = true := by
  rw [List.take_succ_eq_append_getElem hk, List.all_append, h]
  simp [h2]
theorem all16_no {l : List (List Int)} {k : Nat} (hk : k < l.length) (h2 : ¬ l[k].length = 16) : l.all (fun b => decide (b.length = 16)) = false := by
  rw [Bool.eq_false_iff]
  intro h
  exact h2 (by simpa using List.all_eq_true.1 h _ (List.getElem_mem hk))
theorem all0_step {l : List Int} {k : Nat} (hk : k < l.length) (h : (l.take k).all (fun b => decide (b = 0)) = true) (h2 : l[k] = 0) : (l.take (k + 1)).all (fun b => decide (b = 0)) = true := by
  rw [List.take_succ_eq_append_getElem hk, List.all_append, h]
  simp [h2]
theorem all0_no {l : List Int} {k : Nat} (hk : k < l.length) (h2 : ¬ l[k] = 0) : l.all (fun b => decide (b = 0)) = false := by
  rw [Bool.eq_false_iff]
  intro h
  exact h2 (by simpa using List.all_eq_true.1 h _ (List.getElem_mem hk))

/-- The first one that isn't so: its number; none: -1. -/
def IdxIs (t : Bool) (w : World) (r : Ending) (w' : World) : Prop := (∃ i : Int, r = .returned (.int .i64 i) ∧ (decide (0 ≤ i)) = !t) ∧ Below w.heap.size w w'
set_option maxHeartbeats 1000000 in
theorem idxR_is {A : Option Addr} {n c : Nat} {vs : List Value} {l : List (List Int)} {w : World} (hl : l.length = n) (hv : RdV w w.heap.size A vs) (hr : RdR w vs l) (hn : n ≤ 1000000) :
    Calls Tryz.prog 97 #[.slice A n c, .func (.func 130) #[] #[]] w (IdxIs (l.all fun b => decide (b.length = 16)) w) := by
  have HL := Lib.hid hl
  have HV := Lib.hid hv
  have HR := Lib.hid hr
  clear hl hv hr
  go_enter Tryz.func97, Tryz.ntmps97
  go_wp2_with fail
  go_loopg [8] n (fun q i wr => ∃ k : Nat, k ≤ n ∧ q = n - k ∧ i = .int .i64 k ∧ (l.take k).all (fun b => decide (b.length = 16)) = true ∧ Below w.heap.size w wr)
  case atStart => exact ⟨0, by omega, by omega, rfl, rfl, Below.refl _ _⟩
  case round =>
    obtain ⟨k, hk, hm, rfl, ht, hb⟩ := hrel
    have HB := Lib.hid hb
    have HM := Lib.hid hm
    have HT := Lib.hid ht
    clear hb hm ht
    by_cases hlt : k < n
    · have hk1 : k < l.length := by rw [HL.out]; exact hlt
      have hv1 : k < vs.length := by rw [HR.out.1]; exact hk1
      obtain ⟨A1, d1, e1, hd1, hx1⟩ := HR.out.2 k hv1 hk1
      obtain ⟨b, o, rfl, hbl, hcell⟩ := (HV.out.below HB.out) (by omega)
      have c0 := hcell k hv1
      rw [e1] at c0
      clear hcell e1 hx1
      have HD : Hid (l[k].length = 16 → (l.take (k + 1)).all (fun b => decide (b.length = 16)) = true) := Lib.hid (fun h => all16_step hk1 HT.out h)
      have HD2 : Hid (¬ l[k].length = 16 → l.all (fun b => decide (b.length = 16)) = false) := Lib.hid (fun h => all16_no hk1 h)
      generalize l[k] = x at *
      go_wp2_with fail
      refine (wholeA_is (x := x) rfl).mono ?_
      rintro r w' ⟨rfl, rfl⟩
      by_cases h16 : x.length = 16
      · have HS := Lib.hid (HD.out h16)
        have q : (!decide (x.length = 16)) = false := by simp [h16]
        rw [q]
        clear HD HD2 h16 q
        go_wp2_with fail
        go_roundg (n - (k + 1))
        case rel => exact ⟨k + 1, by omega, rfl, by go_num, HS.out, HB.out⟩
        case measure => have := HM.out; omega
      · have HS := Lib.hid (HD2.out h16)
        have q : (!decide (x.length = 16)) = true := by simp [h16]
        rw [q]
        clear HD HD2 h16 q
        go_wp2_with fail
        go_ret
        exact ⟨⟨_, rfl, by rw [HS.out]; simp⟩, HB.out⟩
    · obtain rfl : k = n := by omega
      have HS : Hid (l.all (fun b => decide (b.length = 16)) = true) := Lib.hid (by
        have := HT.out
        rwa [List.take_of_length_le (by rw [HL.out]; omega)] at this)
      go_wp2_with fail
      go_ret
      exact ⟨⟨_, rfl, by rw [HS.out]; rfl⟩, HB.out⟩
set_option maxHeartbeats 1000000 in
theorem idxN_is {A : Option Addr} {n c : Nat} {l : List Int} {w : World} (hl : l.length = n) (hv : RdV w w.heap.size A (u32s l)) (hn : n ≤ 1000000) :
    Calls Tryz.prog 141 #[.slice A n c, .func (.func 134) #[] #[]] w (IdxIs (l.all fun b => decide (b = 0)) w) := by
  have HL := Lib.hid hl
  have HV := Lib.hid hv
  clear hl hv
  go_enter Tryz.func141, Tryz.ntmps141
  go_wp2_with fail
  go_loopg [8] n (fun q i wr => ∃ k : Nat, k ≤ n ∧ q = n - k ∧ i = .int .i64 k ∧ (l.take k).all (fun b => decide (b = 0)) = true ∧ Below w.heap.size w wr)
  case atStart => exact ⟨0, by omega, by omega, rfl, rfl, Below.refl _ _⟩
  case round =>
    obtain ⟨k, hk, hm, rfl, ht, hb⟩ := hrel
    have HB := Lib.hid hb
    have HM := Lib.hid hm
    have HT := Lib.hid ht
    clear hb hm ht
    by_cases hlt : k < n
    · have hk1 : k < l.length := by rw [HL.out]; exact hlt
      obtain ⟨b, o, rfl, hbl, hcell⟩ := (HV.out.below HB.out) (by rw [u32s_len]; omega)
      have c0 := hcell k (by rw [u32s_len]; omega)
      rw [u32s_get] at c0
      clear hcell
      have HD : Hid (l[k] = 0 → (l.take (k + 1)).all (fun b => decide (b = 0)) = true) := Lib.hid (fun h => all0_step hk1 HT.out h)
      have HD2 : Hid (¬ l[k] = 0 → l.all (fun b => decide (b = 0)) = false) := Lib.hid (fun h => all0_no hk1 h)
      generalize l[k] = x at *
      go_wp2_with fail
      refine (emptyA_is x _).mono ?_
      rintro r w' ⟨rfl, rfl⟩
      by_cases h16 : x = 0
      · have HS := Lib.hid (HD.out h16)
        have q : (!decide (x = 0)) = false := by simp [h16]
        rw [q]
        clear HD HD2 h16 q
        go_wp2_with fail
        go_roundg (n - (k + 1))
        case rel => exact ⟨k + 1, by omega, rfl, by go_num, HS.out, HB.out⟩
        case measure => have := HM.out; omega
      · have HS := Lib.hid (HD2.out h16)
        have q : (!decide (x = 0)) = true := by simp [h16]
        rw [q]
        clear HD HD2 h16 q
        go_wp2_with fail
        go_ret
        exact ⟨⟨_, rfl, by rw [HS.out]; simp⟩, HB.out⟩
    · obtain rfl : k = n := by omega
      have HS : Hid (l.all (fun b => decide (b = 0)) = true) := Lib.hid (by
        have := HT.out
        rwa [List.take_of_length_le (by rw [HL.out]; omega)] at this)
      go_wp2_with fail
      go_ret
      exact ⟨⟨_, rfl, by rw [HS.out]; rfl⟩, HB.out⟩
theorem hasR_is {A : Option Addr} {n c : Nat} {vs : List Value} {l : List (List Int)} {w : World} (hl : l.length = n) (hv : RdV w w.heap.size A vs) (hr : RdR w vs l) (hn : n ≤ 1000000) :
    Calls Tryz.prog 59 #[.slice A n c, .func (.func 130) #[] #[]] w (BoolB (!(l.all fun b => decide (b.length = 16))) w) := by
  have HL := Lib.hid hl
  have HV := Lib.hid hv
  have HR := Lib.hid hr
  clear hl hv hr
  go_enter Tryz.func59, Tryz.ntmps59
  go_wp2_with fail
  refine (idxR_is HL.out HV.out HR.out hn).mono ?_
  rintro r w' ⟨⟨i, rfl, hi⟩, hb⟩
  have HB := Lib.hid hb
  have HI := Lib.hid hi
  clear hb hi
  go_wp2_with fail
  go_ret
  exact ⟨ret_bool (by rw [← HI.out]), HB.out⟩
theorem hasN_is {A : Option Addr} {n c : Nat} {l : List Int} {w : World} (hl : l.length = n) (hv : RdV w w.heap.size A (u32s l)) (hn : n ≤ 1000000) :
    Calls Tryz.prog 133 #[.slice A n c, .func (.func 134) #[] #[]] w (BoolB (!(l.all fun b => decide (b = 0))) w) := by
  have HL := Lib.hid hl
  have HV := Lib.hid hv
  clear hl hv
  go_enter Tryz.func133, Tryz.ntmps133
  go_wp2_with fail
  refine (idxN_is HL.out HV.out hn).mono ?_
  rintro r w' ⟨⟨i, rfl, hi⟩, hb⟩
  have HB := Lib.hid hb
  have HI := Lib.hid hi
  clear hb hi
  go_wp2_with fail
  go_ret
  exact ⟨ret_bool (by rw [← HI.out]), HB.out⟩
theorem whole16_is {A : Option Addr} {n c : Nat} {vs : List Value} {l : List (List Int)} {w : World} (hl : l.length = n) (hv : RdV w w.heap.size A vs) (hr : RdR w vs l) (hn : n ≤ 1000000) :
    Calls Tryz.prog 110 #[.slice A n c] w (BoolB (l.all fun b => decide (b.length = 16)) w) := by
  obtain ⟨t, ht⟩ : ∃ t, (l.all fun b => decide (b.length = 16)) = t := ⟨_, rfl⟩
  rw [ht]
  have HT := Lib.hid ht
  clear ht
  have HL := Lib.hid hl
  have HV := Lib.hid hv
  have HR := Lib.hid hr
  clear hl hv hr
  go_enter Tryz.func110, Tryz.ntmps110
  go_wp2_with fail
  refine (hasR_is HL.out HV.out HR.out hn).mono ?_
  rintro r w' ⟨rfl, hb⟩
  have HB := Lib.hid hb
  clear hb
  rw [HT.out]
  go_wp2_with fail
  go_ret
  exact ⟨ret_bool (by simp), HB.out⟩
theorem empty0_is {A : Option Addr} {n c : Nat} {l : List Int} {w : World} (hl : l.length = n) (hv : RdV w w.heap.size A (u32s l)) (hn : n ≤ 1000000) :
    Calls Tryz.prog 117 #[.slice A n c] w (BoolB (l.all fun b => decide (b = 0)) w) := by
  obtain ⟨t, ht⟩ : ∃ t, (l.all fun b => decide (b = 0)) = t := ⟨_, rfl⟩
  rw [ht]
  have HT := Lib.hid ht
  clear ht
  have HL := Lib.hid hl
  have HV := Lib.hid hv
  clear hl hv
  go_enter Tryz.func117, Tryz.ntmps117
  go_wp2_with fail
  refine (hasN_is HL.out HV.out hn).mono ?_
  rintro r w' ⟨rfl, hb⟩
  have HB := Lib.hid hb
  clear hb
  rw [HT.out]
  go_wp2_with fail
  go_ret
  exact ⟨ret_bool (by simp), HB.out⟩
end Go.Proofs.YthmpimjmajoimaaGreatDoor
namespace Go.Proofs.YthmpimjmajoimaaGreatDoor
open Go.RowKit

end Go.Proofs.YthmpimjmajoimaaGreatDoor
