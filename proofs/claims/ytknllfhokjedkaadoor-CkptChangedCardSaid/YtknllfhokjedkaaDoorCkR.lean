/-
  Package ckpt's lay: the bytes of numbers, in a row of the call's own.
-/
import Derived.Test.YtknllfhokjedkaaDoorCkQ
import Derived.Test.YtknllfhokjedkaaDoorCkptC
namespace Go.Proofs.YtknllfhokjedkaaDoor
open Go.RowKit

/-- The value v is the call's own row of these bytes; nil, where there are none. -/
def R8 (w : World) (base : Nat) (v : Value) (xs : List Int) : Prop := w.ownsRow base 5 1 v xs.length (cellsOf8 xs)
theorem R8.nil (w : World) (base : Nat) : R8 w base (.slice none 0 0) [] := ⟨by simp [cellsOf8], .inl ⟨rfl, rfl⟩⟩
theorem R8.rise {w w' : World} {base : Nat} {v : Value} {xs : List Int} (h : R8 w base v xs) (hb : Below w.heap.size w w') : R8 w' base v xs :=
  ⟨h.1, h.2.imp id fun ⟨g', c', cur, hv, hg, hc, r⟩ => ⟨g', c', cur, hv, hg, (hb.block g' (lt_of_block hc)).trans hc, r⟩⟩
theorem R8.own {w : World} {base : Nat} {v : Value} {xs : List Int} (h : R8 w base v xs) : ∀ j, v.ownBlock = some j → base ≤ j := by
  rcases h.2 with ⟨rfl, _⟩ | ⟨g, cap, cur, rfl, hb, _⟩
  · intro j hj
    cases hj
  · intro j hj
    simp [Value.ownBlock] at hj
    omega
theorem lay_put {L : List Int} {x k : Int} {j : Nat} (h : (four x)[j]? = some k) : (L ++ (four x).take j) ++ [k] = L ++ (four x).take (j + 1) := by
  obtain ⟨hj, rfl⟩ := List.getElem?_eq_some_iff.1 h
  rw [List.append_assoc, List.take_succ_eq_append_getElem hj]
theorem four_at (x : Int) (h : Word x) : (four x)[0]? = some (x % 256) ∧ (four x)[1]? = some (x / 256 % 256) ∧ (four x)[2]? = some (x / 65536 % 256) ∧ (four x)[3]? = some (x / 16777216) := by
  obtain ⟨h0, h1⟩ := h
  have e : x / 16777216 = x / 16777216 % 256 := by omega
  rw [e]
  exact ⟨rfl, rfl, rfl, rfl⟩
theorem rd_one (w : World) (k : Int) : Rd (w.alloc (.cells #[.int .u8 k] 5)) (w.heap.size + 1) (some ⟨w.heap.size, 0, none⟩) [k] := by
  intro _
  refine ⟨w.heap.size, 0, rfl, by omega, fun i hi => ?_⟩
  have hi' : i < 1 := hi
  obtain rfl : i = 0 := by omega
  simp

def LayIs (xs : List Int) (w : World) (r : Ending) (w' : World) : Prop := ∃ v, r = .returned v ∧ R8 w' w.heap.size v xs ∧ Below w.heap.size w w'
set_option maxHeartbeats 2000000 in
set_option maxRecDepth 100000 in
theorem lay_any {A : Option Addr} {ns : List Int} {c : Nat} {w : World} (hr : RdV w w.heap.size A (u32s ns)) (hW : Words ns) (hn : ns.length ≤ 1000) : Calls Tryd.prog 22 #[.slice A ns.length c] w (LayIs (flatM ns) w) := by
  have HR := Lib.hid hr
  have HW := Lib.hid hW
  clear hr hW
  go_enter Tryd.func22, Tryd.ntmps22
  go_wp2_with fail
  go_loopg [3, 9] ns.length (fun k s' x wr => ∃ (i : Nat) (s : Value), i ≤ ns.length ∧ k = ns.length - i ∧ x = .int .i64 i ∧ s = s' ∧ R8 wr w.heap.size s (flatM (ns.take i)) ∧ Below w.heap.size w wr)
  case atStart => exact ⟨0, _, by omega, by omega, rfl, rfl, R8.nil _ _, Below.refl _ _⟩
  case round =>
    obtain ⟨i, s, hi, hk, rfl, rfl, ho, hb⟩ := hrel
    have HK := Lib.hid hk
    have HO := Lib.hid ho
    have HB := Lib.hid hb
    clear hk ho hb
    by_cases hlt : i < ns.length
    · obtain ⟨b, o, rfl, hbl, hcell⟩ := (HR.out.below HB.out) (by rw [u32s_len]; omega)
      have c0 := hcell i (by rw [u32s_len]; exact hlt)
      rw [u32s_get] at c0
      clear hcell
      have HF := Lib.hid (flat_snoc hlt)
      have HX := Lib.hid (HW.out _ (List.getElem_mem hlt))
      have HLL : Hid ((flatM (ns.take i)).length = 4 * i) := Lib.hid (by rw [flatM_len]; simp; omega)
      have hxw := HX.out
      obtain ⟨hx0, hx1⟩ := hxw
      generalize ns[i] = x at *
      generalize flatM (ns.take i) = L at *
      go_wp2_with fail
      obtain ⟨wo, rfl⟩ : ∃ wo : World, wo = wr := ⟨_, rfl⟩
      clear c0
      go_loopg [3, 13] 4 (fun k s' y wr => ∃ (j : Nat) (s : Value), j ≤ 4 ∧ k = 4 - j ∧ y = .int .i64 j ∧ s = s' ∧ R8 wr w.heap.size s (L ++ (four x).take j) ∧ Below w.heap.size w wr)
      case atStart => exact ⟨0, _, by omega, by omega, rfl, rfl, by rw [List.take_zero, List.append_nil]; exact HO.out, HB.out⟩
      case round =>
        clear HO HB
        obtain ⟨j, s2, hj, hk, rfl, rfl, ho, hb⟩ := hrel
        have HK2 := Lib.hid hk
        have HO := Lib.hid ho
        have HB := Lib.hid hb
        clear hk ho hb
        by_cases hlt2 : j < 4
        · have HP := Lib.hid (four_at x HX.out)
          have HLJ : Hid ((L ++ (four x).take j).length ≤ 20000) := Lib.hid (by rw [List.length_append, HLL.out, List.length_take]; omega)
          have hj4 : j = 0 ∨ j = 1 ∨ j = 2 ∨ j = 3 := by omega
          clear hj hlt2
          rcases hj4 with rfl | rfl | rfl | rfl
          · have HOA := Lib.hid (HO.out.rise (Below.alloc (Below.refl wr.heap.size wr) (Nat.le_refl _) (.cells #[.int .u8 (x % 256)] 5)))
            have HBA := Lib.hid (HB.out.alloc HB.out.size (.cells #[.int .u8 (x % 256)] 5))
            go_wp2_with (first
              | (at_builtin; refine append_rd _ rfl (.tmp 16) (.tmp 22) rfl w.heap.size (wr.heap.size + 1) s2 (L ++ (four x).take 0) rfl HOA.out (some ⟨wr.heap.size, 0, none⟩) [x % 256] 1 rfl (rd_one wr _) (fun h => by cases h) ?h1a ?h1b ?_; (case h1a => have := HLJ.out; simp at this ⊢; omega); (case h1b => have := HB.out.size; simp; omega); intro v' w' zs hz ho hg; have HO1 := Lib.hid (show R8 _ _ _ (L ++ (four x).take (0 + 1)) from (lay_put (L := L) HP.out.1) ▸ hz.out ▸ ho); have HB1 := Lib.hid (HBA.out.grown hg HBA.out.size HO.out.own); clear hz ho hg HOA HBA HO HB)
              | fail)
            go_roundg (4 - (0 + 1))
            case rel => exact ⟨0 + 1, _, by omega, rfl, by go_num, rfl, HO1.out, HB1.out⟩
            case measure => have := HK2.out; omega
          · have HOA := Lib.hid (HO.out.rise (Below.alloc (Below.refl wr.heap.size wr) (Nat.le_refl _) (.cells #[.int .u8 (x / 256 % 256)] 5)))
            have HBA := Lib.hid (HB.out.alloc HB.out.size (.cells #[.int .u8 (x / 256 % 256)] 5))
            go_wp2_with (first
              | (at_builtin; refine append_rd _ rfl (.tmp 16) (.tmp 22) rfl w.heap.size (wr.heap.size + 1) s2 (L ++ (four x).take 1) rfl HOA.out (some ⟨wr.heap.size, 0, none⟩) [x / 256 % 256] 1 rfl (rd_one wr _) (fun h => by cases h) ?h2a ?h2b ?_; (case h2a => have := HLJ.out; simp at this ⊢; omega); (case h2b => have := HB.out.size; simp; omega); intro v' w' zs hz ho hg; have HO1 := Lib.hid (show R8 _ _ _ (L ++ (four x).take (1 + 1)) from (lay_put (L := L) HP.out.2.1) ▸ hz.out ▸ ho); have HB1 := Lib.hid (HBA.out.grown hg HBA.out.size HO.out.own); clear hz ho hg HOA HBA HO HB)
              | fail)
            go_roundg (4 - (1 + 1))
            case rel => exact ⟨1 + 1, _, by omega, rfl, by go_num, rfl, HO1.out, HB1.out⟩
            case measure => have := HK2.out; omega
          · have HOA := Lib.hid (HO.out.rise (Below.alloc (Below.refl wr.heap.size wr) (Nat.le_refl _) (.cells #[.int .u8 (x / 65536 % 256)] 5)))
            have HBA := Lib.hid (HB.out.alloc HB.out.size (.cells #[.int .u8 (x / 65536 % 256)] 5))
            go_wp2_with (first
              | (at_builtin; refine append_rd _ rfl (.tmp 16) (.tmp 22) rfl w.heap.size (wr.heap.size + 1) s2 (L ++ (four x).take 2) rfl HOA.out (some ⟨wr.heap.size, 0, none⟩) [x / 65536 % 256] 1 rfl (rd_one wr _) (fun h => by cases h) ?h3a ?h3b ?_; (case h3a => have := HLJ.out; simp at this ⊢; omega); (case h3b => have := HB.out.size; simp; omega); intro v' w' zs hz ho hg; have HO1 := Lib.hid (show R8 _ _ _ (L ++ (four x).take (2 + 1)) from (lay_put (L := L) HP.out.2.2.1) ▸ hz.out ▸ ho); have HB1 := Lib.hid (HBA.out.grown hg HBA.out.size HO.out.own); clear hz ho hg HOA HBA HO HB)
              | fail)
            go_roundg (4 - (2 + 1))
            case rel => exact ⟨2 + 1, _, by omega, rfl, by go_num, rfl, HO1.out, HB1.out⟩
            case measure => have := HK2.out; omega
          · have HOA := Lib.hid (HO.out.rise (Below.alloc (Below.refl wr.heap.size wr) (Nat.le_refl _) (.cells #[.int .u8 (x / 16777216)] 5)))
            have HBA := Lib.hid (HB.out.alloc HB.out.size (.cells #[.int .u8 (x / 16777216)] 5))
            go_wp2_with (first
              | (at_builtin; refine append_rd _ rfl (.tmp 16) (.tmp 22) rfl w.heap.size (wr.heap.size + 1) s2 (L ++ (four x).take 3) rfl HOA.out (some ⟨wr.heap.size, 0, none⟩) [x / 16777216] 1 rfl (rd_one wr _) (fun h => by cases h) ?h4a ?h4b ?_; (case h4a => have := HLJ.out; simp at this ⊢; omega); (case h4b => have := HB.out.size; simp; omega); intro v' w' zs hz ho hg; have HO1 := Lib.hid (show R8 _ _ _ (L ++ (four x).take (3 + 1)) from (lay_put (L := L) HP.out.2.2.2) ▸ hz.out ▸ ho); have HB1 := Lib.hid (HBA.out.grown hg HBA.out.size HO.out.own); clear hz ho hg HOA HBA HO HB)
              | fail)
            go_roundg (4 - (3 + 1))
            case rel => exact ⟨3 + 1, _, by omega, rfl, by go_num, rfl, HO1.out, HB1.out⟩
            case measure => have := HK2.out; omega
        · obtain rfl : j = 4 := by omega
          have HE : Hid (R8 wr w.heap.size s2 (flatM (ns.take (i + 1)))) := Lib.hid (HF.out ▸ HO.out)
          go_wp2_with fail
          go_roundg (ns.length - (i + 1))
          case rel => exact ⟨i + 1, _, by omega, rfl, by go_num, rfl, HE.out, HB.out⟩
          case measure => have := HK.out; omega
    · obtain rfl : i = ns.length := by omega
      rw [List.take_of_length_le (Nat.le_refl _)] at HO
      go_wp2_with fail
      go_ret
      exact ⟨s, rfl, HO.out, HB.out⟩
/-- .. of one number, or more. -/
def Lay1Is (m : Nat) (xs : List Int) (w : World) (r : Ending) (w' : World) : Prop := ∃ g cap, r = .returned (.slice (some ⟨g, 0, none⟩) m cap) ∧ Own8 w' w.heap.size g cap xs ∧ Below w.heap.size w w'
theorem lay_is {A : Option Addr} {ns : List Int} {n c m : Nat} {w : World} (hr : RdV w w.heap.size A (u32s ns)) (hl : ns.length = n) (hm : 4 * n = m) (hW : Words ns) (hn : n ≤ 1000) (h1 : 1 ≤ n) : Calls Tryd.prog 22 #[.slice A n c] w (Lay1Is m (flatM ns) w) := by
  subst hl hm
  refine (lay_any hr hW hn).mono ?_
  rintro r w' ⟨v, rfl, h, hb⟩
  obtain ⟨g, cap, rfl, ho⟩ := Own8.of h (by rw [flatM_len]; omega)
  refine ⟨g, cap, ?_, ho, hb⟩
  rw [flatM_len]
end Go.Proofs.YtknllfhokjedkaaDoor
