/-
  Package ckpt's whole and empty: slices.ContainsFunc and IndexFunc at a function that reads alone.
  platelayerlaw06's own, same and large.
  The document's Read of blocks.
  Plain mathematics of checkpoints: they come back from their blocks, and blocks from their checkpoints; of blocks of which one byte is another one nothing comes back.
  Plain mathematics of checkpoints, on: there and back; changed bytes; alike.
  Plain mathematics of checkpoints, on: of blocks of which one byte is another one nothing comes back, nor of one block less; checkpoints are alike just if their blocks are.
-/
import Derived.Test.YthmpimjmajoimaaGreatDoorSw17
import Derived.Deep.RegionLaw
import Derived.Test.YthmpimjmajoimaaGreatDoorSw15
namespace Go.Proofs.YthmpimjmajoimaaGreatDoor
open Go.RowKit

theorem wholeA_is {x : List Int} {A : Option Addr} {n c : Nat} {w : World} (hl : x.length = n) : Calls Tryz.prog 130 #[.slice A n c] w (BoolIs (!decide (x.length = 16)) w) := by
  subst hl
  go_enter Tryz.func130, Tryz.ntmps130
  go_wp2_with fail
  go_ret
  refine ⟨ret_bool ?_, rfl⟩
  by_cases h : x.length = 16
  · simp [h]
  · have : ¬ ((x.length : Int) = 16) := by omega
    simp [h, this]
theorem emptyA_is (n : Int) (w : World) : Calls Tryz.prog 134 #[.int .u32 n] w (BoolIs (!decide (n = 0)) w) := by
  go_enter Tryz.func134, Tryz.ntmps134
  go_wp2_with fail
  go_ret
  refine ⟨ret_bool ?_, rfl⟩
  by_cases h : n = 0
  · simp [h]
  · simp [h]

/-- All rows have sixteen, up to k. -/
theorem all16_step {l : List (List Int)} {k : Nat} (hk : k < l.length) (h : (l.take k).all (fun b => decide (b.length = 16)) = true) (h2 : l[k].length = 16) : (l.take (k + 1)).all (fun b => decide (b.length = 16)) = true := by
  rw [List.take_succ_eq_append_getElem hk, List.all_append, h]
  simp [h2]
theorem all16_no {l : List (List Int)} {k : Nat} (hk : k < l.length) (h2 : ¬ l[k].length = 16) : l.all (fun b => decide (b.length = 16)) = false := by
  rw [Bool.eq_false_iff]
  intro h
  exact h2 (by simpa using List.all_eq_true.1 h _ (List.getElem_mem hk))
theorem all0_step {l : List Int} {k : Nat} (hk : k < l.length) (h : (l.take k).all (fun b => decide (b = 0)) = true) (h2 : l[k] = 0) : (l.take (k + 1)).all (fun b => decide (b = 0)) = true := by
  rw [List.take_succ_eq_append_getElem hk, List.all_append, h]
  simp [h2]
theorem all0_no {l : List Int} {k : Nat} (hk : k < l.length) (h2 : ¬ l[k] = 0) : l.all (fun b => decide (b = 0)) = false := by
  rw [Bool.eq_false_iff]
  intro h
  exact h2 (by simpa using List.all_eq_true.1 h _ (List.getElem_mem hk))

/-- The first one that isn't so: its number; none: -1. -/
def IdxIs (t : Bool) (w : World) (r : Ending) (w' : World) : Prop := (∃ i : Int, r = .returned (.int .i64 i) ∧ (decide (0 ≤ i)) = !t) ∧ Below w.heap.size w w'
set_option maxHeartbeats 1000000 in
theorem idxR_is {A : Option Addr} {n c : Nat} {vs : List Value} {l : List (List Int)} {w : World} (hl : l.length = n) (hv : RdV w w.heap.size A vs) (hr : RdR w vs l) (hn : n ≤ 1000000) :
    Calls Tryz.prog 97 #[.slice A n c, .func (.func 130) #[] #[]] w (IdxIs (l.all fun b => decide (b.length = 16)) w) := by
  have HL := Lib.hid hl
  have HV := Lib.hid hv
  have HR := Lib.hid hr
  clear hl hv hr
  go_enter Tryz.func97, Tryz.ntmps97
  go_wp2_with fail
  go_loopg [8] n (fun q i wr => ∃ k : Nat, k ≤ n ∧ q = n - k ∧ i = .int .i64 k ∧ (l.take k).all (fun b => decide (b.length = 16)) = true ∧ Below w.heap.size w wr)
  case atStart => exact ⟨0, by omega, by omega, rfl, rfl, Below.refl _ _⟩
  case round =>
    obtain ⟨k, hk, hm, rfl, ht, hb⟩ := hrel
    have HB := Lib.hid hb
    have HM := Lib.hid hm
    have HT := Lib.hid ht
    clear hb hm ht
    by_cases hlt : k < n
    · have hk1 : k < l.length := by rw [HL.out]; exact hlt
      have hv1 : k < vs.length := by rw [HR.out.1]; exact hk1
      obtain ⟨A1, d1, e1, hd1, hx1⟩ := HR.out.2 k hv1 hk1
      obtain ⟨b, o, rfl, hbl, hcell⟩ := (HV.out.below HB.out) (by omega)
      have c0 := hcell k hv1
      rw [e1] at c0
      clear hcell e1 hx1
      have HD : Hid (l[k].length = 16 → (l.take (k + 1)).all (fun b => decide (b.length = 16)) = true) := Lib.hid (fun h => all16_step hk1 HT.out h)
      have HD2 : Hid (¬ l[k].length = 16 → l.all (fun b => decide (b.length = 16)) = false) := Lib.hid (fun h => all16_no hk1 h)
      generalize l[k] = x at *
      go_wp2_with fail
      refine (wholeA_is (x := x) rfl).mono ?_
      rintro r w' ⟨rfl, rfl⟩
      by_cases h16 : x.length = 16
      · have HS := Lib.hid (HD.out h16)
        have q : (!decide (x.length = 16)) = false := by simp [h16]
        rw [q]
        clear HD HD2 h16 q
        go_wp2_with fail
        go_roundg (n - (k + 1))
        case rel => exact ⟨k + 1, by omega, rfl, by go_num, HS.out, HB.out⟩
        case measure => have := HM.out; omega
      · have HS := Lib.hid (HD2.out h16)
        have q : (!decide (x.length = 16)) = true := by simp [h16]
        rw [q]
        clear HD HD2 h16 q
        go_wp2_with fail
        go_ret
        exact ⟨⟨_, rfl, by rw [HS.out]; simp⟩, HB.out⟩
    · obtain rfl : k = n := by omega
      have HS : Hid (l.all (fun b => decide (b.length = 16)) = true) := Lib.hid (by
        have := HT.out
        rwa [List.take_of_length_le (by rw [HL.out]; omega)] at this)
      go_wp2_with fail
      go_ret
      exact ⟨⟨_, rfl, by rw [HS.out]; rfl⟩, HB.out⟩
set_option maxHeartbeats 1000000 in
theorem idxN_is {A : Option Addr} {n c : Nat} {l : List Int} {w : World} (hl : l.length = n) (hv : RdV w w.heap.size A (u32s l)) (hn : n ≤ 1000000) :
    Calls Tryz.prog 141 #[.slice A n c, .func (.func 134) #[] #[]] w (IdxIs (l.all fun b => decide (b = 0)) w) := by
  have HL := Lib.hid hl
  have HV := Lib.hid hv
  clear hl hv
  go_enter Tryz.func141, Tryz.ntmps141
  go_wp2_with fail
  go_loopg [8] n (fun q i wr => ∃ k : Nat, k ≤ n ∧ q = n - k ∧ i = .int .i64 k ∧ (l.take k).all (fun b => decide (b = 0)) = true ∧ Below w.heap.size w wr)
  case atStart => exact ⟨0, by omega, by omega, rfl, rfl, Below.refl _ _⟩
  case round =>
    obtain ⟨k, hk, hm, rfl, ht, hb⟩ := hrel
    have HB := Lib.hid hb
    have HM := Lib.hid hm
    have HT := Lib.hid ht
    clear hb hm ht
    by_cases hlt : k < n
    · have hk1 : k < l.length := by rw [HL.out]; exact hlt
      obtain ⟨b, o, rfl, hbl, hcell⟩ := (HV.out.below HB.out) (by rw [u32s_len]; omega)
      have c0 := hcell k (by rw [u32s_len]; omega)
      rw [u32s_get] at c0
      clear hcell
      have HD : Hid (l[k] = 0 → (l.take (k + 1)).all (fun b => decide (b = 0)) = true) := Lib.hid (fun h => all0_step hk1 HT.out h)
      have HD2 : Hid (¬ l[k] = 0 → l.all (fun b => decide (b = 0)) = false) := Lib.hid (fun h => all0_no hk1 h)
      generalize l[k] = x at *
      go_wp2_with fail
      refine (emptyA_is x _).mono ?_
      rintro r w' ⟨rfl, rfl⟩
      by_cases h16 : x = 0
      · have HS := Lib.hid (HD.out h16)
        have q : (!decide (x = 0)) = false := by simp [h16]
        rw [q]
        clear HD HD2 h16 q
        go_wp2_with fail
        go_roundg (n - (k + 1))
        case rel => exact ⟨k + 1, by omega, rfl, by go_num, HS.out, HB.out⟩
        case measure => have := HM.out; omega
      · have HS := Lib.hid (HD2.out h16)
        have q : (!decide (x = 0)) = true := by simp [h16]
        rw [q]
        clear HD HD2 h16 q
        go_wp2_with fail
        go_ret
        exact ⟨⟨_, rfl, by rw [HS.out]; simp⟩, HB.out⟩
    · obtain rfl : k = n := by omega
      have HS : Hid (l.all (fun b => decide (b = 0)) = true) := Lib.hid (by
        have := HT.out
        rwa [List.take_of_length_le (by rw [HL.out]; omega)] at this)
      go_wp2_with fail
      go_ret
      exact ⟨⟨_, rfl, by rw [HS.out]; rfl⟩, HB.out⟩
theorem hasR_is {A : Option Addr} {n c : Nat} {vs : List Value} {l : List (List Int)} {w : World} (hl : l.length = n) (hv : RdV w w.heap.size A vs) (hr : RdR w vs l) (hn : n ≤ 1000000) :
    Calls Tryz.prog 59 #[.slice A n c, .func (.func 130) #[] #[]] w (BoolB (!(l.all fun b => decide (b.length = 16))) w) := by
  have HL := Lib.hid hl
  have HV := Lib.hid hv
  have HR := Lib.hid hr
  clear hl hv hr
  go_enter Tryz.func59, Tryz.ntmps59
  go_wp2_with fail
  refine (idxR_is HL.out HV.out HR.out hn).mono ?_
  rintro r w' ⟨⟨i, rfl, hi⟩, hb⟩
  have HB := Lib.hid hb
  have HI := Lib.hid hi
  clear hb hi
  go_wp2_with fail
  go_ret
  exact ⟨ret_bool (by rw [← HI.out]), HB.out⟩
theorem hasN_is {A : Option Addr} {n c : Nat} {l : List Int} {w : World} (hl : l.length = n) (hv : RdV w w.heap.size A (u32s l)) (hn : n ≤ 1000000) :
    Calls Tryz.prog 133 #[.slice A n c, .func (.func 134) #[] #[]] w (BoolB (!(l.all fun b => decide (b = 0))) w) := by
  have HL := Lib.hid hl
  have HV := Lib.hid hv
  clear hl hv
  go_enter Tryz.func133, Tryz.ntmps133
  go_wp2_with fail
  refine (idxN_is HL.out HV.out hn).mono ?_
  rintro r w' ⟨⟨i, rfl, hi⟩, hb⟩
  have HB := Lib.hid hb
  have HI := Lib.hid hi
  clear hb hi
  go_wp2_with fail
  go_ret
  exact ⟨ret_bool (by rw [← HI.out]), HB.out⟩
theorem whole16_is {A : Option Addr} {n c : Nat} {vs : List Value} {l : List (List Int)} {w : World} (hl : l.length = n) (hv : RdV w w.heap.size A vs) (hr : RdR w vs l) (hn : n ≤ 1000000) :
    Calls Tryz.prog 110 #[.slice A n c] w (BoolB (l.all fun b => decide (b.length = 16)) w) := by
  obtain ⟨t, ht⟩ : ∃ t, (l.all fun b => decide (b.length = 16)) = t := ⟨_, rfl⟩
  rw [ht]
  have HT := Lib.hid ht
  clear ht
  have HL := Lib.hid hl
  have HV := Lib.hid hv
  have HR := Lib.hid hr
  clear hl hv hr
  go_enter Tryz.func110, Tryz.ntmps110
  go_wp2_with fail
  refine (hasR_is HL.out HV.out HR.out hn).mono ?_
  rintro r w' ⟨rfl, hb⟩
  have HB := Lib.hid hb
  clear hb
  rw [HT.out]
  go_wp2_with fail
  go_ret
  exact ⟨ret_bool (by simp), HB.out⟩
theorem empty0_is {A : Option Addr} {n c : Nat} {l : List Int} {w : World} (hl : l.length = n) (hv : RdV w w.heap.size A (u32s l)) (hn : n ≤ 1000000) :
    Calls Tryz.prog 117 #[.slice A n c] w (BoolB (l.all fun b => decide (b = 0)) w) := by
  obtain ⟨t, ht⟩ : ∃ t, (l.all fun b => decide (b = 0)) = t := ⟨_, rfl⟩
  rw [ht]
  have HT := Lib.hid ht
  clear ht
  have HL := Lib.hid hl
  have HV := Lib.hid hv
  clear hl hv
  go_enter Tryz.func117, Tryz.ntmps117
  go_wp2_with fail
  refine (hasN_is HL.out HV.out hn).mono ?_
  rintro r w' ⟨rfl, hb⟩
  have HB := Lib.hid hb
  clear hb
  rw [HT.out]
  go_wp2_with fail
  go_ret
  exact ⟨ret_bool (by simp), HB.out⟩
end Go.Proofs.YthmpimjmajoimaaGreatDoor
namespace Go.Proofs.YthmpimjmajoimaaGreatDoor
open Go.RowKit

end Go.Proofs.YthmpimjmajoimaaGreatDoor
namespace Go.Proofs.YthmpimjmajoimaaGreatDoor
open Go.RowKit

/-- The value v is a row of numbers. -/
def NumsAt (w : World) (v : Value) (ns : List Int) : Prop := ∃ A c, v = .slice A ns.length c ∧ ns.length ≤ c ∧ RdV w w.heap.size A (u32s ns)
theorem NumsAt.nil (w : World) : NumsAt w (.slice none 0 0) [] := ⟨none, 0, rfl, by simp, RdV.nil⟩
theorem NumsAt.up {w u : World} {v : Value} {ns : List Int} (h : NumsAt w v ns) (hb : Below w.heap.size w u) : NumsAt u v ns := by
  obtain ⟨A, c, e, hc, hr⟩ := h
  exact ⟨A, c, e, hc, hr.up hb⟩
/-- What blocks say: each number, 0 where they say nothing; the directory. -/
def rdN (l : List (List Int)) (i : Nat) : Int := if readGE l = 0 then numAt l.flatten i else 0
def rdD (l : List (List Int)) : List Int := if readGE l = 0 then readDir l else []
def ReadIs (e : Value) (l : List (List Int)) (w : World) (r : Ending) (w' : World) : Prop :=
  ∃ S, r = .returned (.tuple #[kV (rdN l 0) (rdN l 1) (rdN l 2) (rdN l 3) (rdN l 4) (rdN l 5) S, e]) ∧ NumsAt w' S (rdD l) ∧ Below w.heap.size w w'
theorem ReadIs.no {e : Int} {l : List (List Int)} {w w' : World} (he : readGE l = e) (h0 : e ≠ 0) (hb : Below w.heap.size w w') : ReadIs (.int .i64 (readGE l)) l w (.returned (.tuple #[kV 0 0 0 0 0 0 (.slice none 0 0), .int .i64 e])) w' := by
  have hn : readGE l ≠ 0 := by rw [he]; exact h0
  refine ⟨.slice none 0 0, ?_, ?_, hb⟩
  · unfold rdN
    rw [if_neg hn, if_neg hn, if_neg hn, if_neg hn, if_neg hn, if_neg hn, he]
  · unfold rdD
    rw [if_neg hn]
    exact NumsAt.nil _
theorem below_seven {B g : Nat} {w w' : World} (h : Below B w w') (hg : B ≤ g) (v0 v1 v2 v3 v4 v5 v6 : Value) : Below B w (((((((w'.setCell ⟨g, 0, none⟩ v0).setCell ⟨g, 1, none⟩ v1).setCell ⟨g, 2, none⟩ v2).setCell ⟨g, 3, none⟩ v3).setCell ⟨g, 4, none⟩ v4).setCell ⟨g, 5, none⟩ v5).setCell ⟨g, 6, none⟩ v6) :=
  ((((((h.setCell (p := ⟨g, 0, none⟩) hg _).setCell (p := ⟨g, 1, none⟩) hg _).setCell (p := ⟨g, 2, none⟩) hg _).setCell (p := ⟨g, 3, none⟩) hg _).setCell (p := ⟨g, 4, none⟩) hg _).setCell (p := ⟨g, 5, none⟩) hg _).setCell (p := ⟨g, 6, none⟩) hg _
abbrev zList : List Value := kList 0 0 0 0 0 0 (.slice none 0 0)
theorem numAt_word {xs : List Int} (i : Nat) (hx : Byt xs) : Word (numAt xs i) := by
  have g : ∀ j, 0 ≤ xs.getD j 0 ∧ xs.getD j 0 ≤ 255 := fun j => by
    rw [List.getD_eq_getElem?_getD]
    by_cases h : j < xs.length
    · rw [List.getElem?_eq_getElem h]; exact hx.get j h
    · rw [List.getElem?_eq_none (by omega)]; simp
  exact back4_bd (g _).1 (g _).2 (g _).1 (g _).2 (g _).1 (g _).2 (g _).1 (g _).2
theorem byt_flatten {l : List (List Int)} (h : ∀ x ∈ l, Byt x) : Byt l.flatten := by
  intro x hx
  obtain ⟨y, hy, hxy⟩ := List.mem_flatten.1 hx
  exact h y hy x hxy
theorem take_flatten {l : List (List Int)} {k : Nat} (h : k < l.length) : (l.take k).flatten ++ l[k] = (l.take (k + 1)).flatten := by
  rw [List.take_succ_eq_append_getElem h, List.flatten_append]
  simp only [List.flatten_cons, List.flatten_nil, List.append_nil]
/-! ### the errors, one by one -/
theorem readGE_short {l : List (List Int)} (h : l.length < 2) : readGE l = 3 := by
  unfold readGE
  rw [if_pos (by simp; omega)]
theorem readGE_row {l : List (List Int)} {k : Nat} (hk : k < l.length) (h : l[k].length ≠ 16) : readGE l = 3 := by
  unfold readGE
  rw [if_pos]
  have : (l.all fun b => decide (b.length = 16)) = false := by
    rw [Bool.eq_false_iff]
    intro ha
    have := List.all_eq_true.1 ha l[k] (List.getElem_mem hk)
    exact h (by simpa using this)
  rw [this, Bool.and_false]
def rowsOk (l : List (List Int)) : Prop := 2 ≤ l.length ∧ (l.all fun b => decide (b.length = 16)) = true
theorem readGE_form {l : List (List Int)} (h : rowsOk l) (hg : rightB (numAt l.flatten 3) (numAt l.flatten 4) (numAt l.flatten 5) = false) : readGE l = 2 := by
  unfold readGE
  rw [if_neg (by rw [h.2]; simp [h.1]), if_pos hg]
theorem readGE_many {l : List (List Int)} (h : rowsOk l) (hg : rightB (numAt l.flatten 3) (numAt l.flatten 4) (numAt l.flatten 5) = true) (hm : (l.length : Int) ≠ manyC (numAt l.flatten 5)) : readGE l = 3 := by
  unfold readGE
  rw [if_neg (by rw [h.2]; simp [h.1]), if_neg (by rw [hg]; decide), if_pos hm]
theorem readGE_sum {l : List (List Int)} {t : Nat} (h : rowsOk l) (hg : rightB (numAt l.flatten 3) (numAt l.flatten 4) (numAt l.flatten 5) = true) (hm : (l.length : Int) = manyC (numAt l.flatten 5)) (ht : tab (numAt l.flatten 5) = (t : Int)) (hs : sumN (l.flatten.take (24 + 4 * t)) ≠ numAt l.flatten (6 + t)) : readGE l = 4 := by
  unfold readGE
  rw [if_neg (by rw [h.2]; simp [h.1]), if_neg (by rw [hg]; decide), if_neg (by omega), ht, Int.toNat_natCast, if_pos hs]
theorem readGE_zero {l : List (List Int)} {t : Nat} (h : rowsOk l) (hg : rightB (numAt l.flatten 3) (numAt l.flatten 4) (numAt l.flatten 5) = true) (hm : (l.length : Int) = manyC (numAt l.flatten 5)) (ht : tab (numAt l.flatten 5) = (t : Int)) (hs : sumN (l.flatten.take (24 + 4 * t)) = numAt l.flatten (6 + t)) (hz : ((l.flatten.drop (28 + 4 * t)).all fun x => decide (x = 0)) = false) : readGE l = 2 := by
  unfold readGE
  rw [if_neg (by rw [h.2]; simp [h.1]), if_neg (by rw [hg]; decide), if_neg (by omega), ht, Int.toNat_natCast, if_neg (by omega), if_pos hz]
theorem readGE_ok {l : List (List Int)} {t : Nat} (h : rowsOk l) (hg : rightB (numAt l.flatten 3) (numAt l.flatten 4) (numAt l.flatten 5) = true) (hm : (l.length : Int) = manyC (numAt l.flatten 5)) (ht : tab (numAt l.flatten 5) = (t : Int)) (hs : sumN (l.flatten.take (24 + 4 * t)) = numAt l.flatten (6 + t)) (hz : ((l.flatten.drop (28 + 4 * t)).all fun x => decide (x = 0)) = true) : readGE l = 0 := by
  unfold readGE
  rw [if_neg (by rw [h.2]; simp [h.1]), if_neg (by rw [hg]; decide), if_neg (by omega), ht, Int.toNat_natCast, if_neg (by omega), if_neg (by rw [hz]; decide)]

/-- What is there while a checkpoint is made. -/
def KeptD (w wo : World) (G : Nat) (z p b : Int) (u : World) : Prop := Below w.heap.size w u ∧ Below wo.heap.size wo u ∧ Blk u w.heap.size 46 zList ∧ Blk u G 44 [.int .i64 z, .int .i64 p, .int .i64 b]
theorem KeptD.up {w wo : World} {G : Nat} {z p b : Int} {u v : World} (h : KeptD w wo G z p b u) (hb : Below u.heap.size u v) : KeptD w wo G z p b v :=
  ⟨below_all h.1 hb, below_all h.2.1 hb, h.2.2.1.up hb (lt_of_block h.2.2.1), h.2.2.2.up hb (lt_of_block h.2.2.2)⟩
theorem KeptD.al {w wo : World} {G : Nat} {z p b : Int} {u : World} (h : KeptD w wo G z p b u) (o : Obj) : KeptD w wo G z p b (u.alloc o) := h.up (Below.alloc (Below.refl _ _) (Nat.le_refl _) o)
theorem KeptD.new {w wo : World} {G : Nat} {z p b : Int} {u : World} (h : KeptD w wo G z p b u) : G < u.heap.size ∧ wo.heap.size ≤ u.heap.size := ⟨lt_of_block h.2.2.2, h.2.1.size⟩
theorem KeptD.kept {w wo : World} {G g : Nat} {z p b : Int} {u v : World} (h : KeptD w wo G z p b u) (hw : w.heap.size < wo.heap.size) (hG : G < g) (hg : wo.heap.size ≤ g) (hr : u.grownBy v (some g)) : KeptD w wo G z p b v :=
  ⟨h.1.grown hr h.1.size (fun j hj => by have := Option.some.inj hj; omega), h.2.1.grown hr h.2.1.size (fun j hj => by have := Option.some.inj hj; omega), h.2.2.1.kept hr (fun e => by have := Option.some.inj e; omega), h.2.2.2.kept hr (fun e => by have := Option.some.inj e; omega)⟩
theorem grown7 (u : World) (g : Nat) (v0 v1 v2 v3 v4 v5 v6 : Value) : u.grownBy (((((((u.setCell ⟨g, 0, none⟩ v0).setCell ⟨g, 1, none⟩ v1).setCell ⟨g, 2, none⟩ v2).setCell ⟨g, 3, none⟩ v3).setCell ⟨g, 4, none⟩ v4).setCell ⟨g, 5, none⟩ v5).setCell ⟨g, 6, none⟩ v6) (some g) :=
  grown_put (grown_put (grown_put (grown_put (grown_put (grown_put (grown_put (World.grownBy.refl _ _) 0 _) 1 _) 2 _) 3 _) 4 _) 5 _) 6 _
theorem KeptD.put7 {w wo : World} {G g : Nat} {z p b : Int} {u : World} (h : KeptD w wo G z p b u) (hw : w.heap.size < wo.heap.size) (hG : G < g) (hg : wo.heap.size ≤ g) (v0 v1 v2 v3 v4 v5 v6 : Value) :
    KeptD w wo G z p b (((((((u.setCell ⟨g, 0, none⟩ v0).setCell ⟨g, 1, none⟩ v1).setCell ⟨g, 2, none⟩ v2).setCell ⟨g, 3, none⟩ v3).setCell ⟨g, 4, none⟩ v4).setCell ⟨g, 5, none⟩ v5).setCell ⟨g, 6, none⟩ v6) := h.kept hw hG hg (grown7 u g v0 v1 v2 v3 v4 v5 v6)
theorem blk7 {w : World} {g : Nat} {T : TypeId} {c0 c1 c2 c3 c4 c5 c6 : Value} (h : Blk w g T [c0, c1, c2, c3, c4, c5, c6]) (v0 v1 v2 v3 v4 v5 v6 : Value) :
    Blk (((((((w.setCell ⟨g, 0, none⟩ v0).setCell ⟨g, 1, none⟩ v1).setCell ⟨g, 2, none⟩ v2).setCell ⟨g, 3, none⟩ v3).setCell ⟨g, 4, none⟩ v4).setCell ⟨g, 5, none⟩ v5).setCell ⟨g, 6, none⟩ v6) g T [v0, v1, v2, v3, v4, v5, v6] :=
  ((((((h.put 0 v0).put 1 v1).put 2 v2).put 3 v3).put 4 v4).put 5 v5).put 6 v6
def CellsG (G : Nat) (z p b : Int) (u : World) : Prop := u.cell? ⟨G, 0, none⟩ = some (.int .i64 z) ∧ u.cell? ⟨G, 1, none⟩ = some (.int .i64 p) ∧ u.cell? ⟨G, 2, none⟩ = some (.int .i64 b)
theorem KeptD.cells {w wo : World} {G : Nat} {z p b : Int} {u : World} (h : KeptD w wo G z p b u) : CellsG G z p b u := ⟨h.2.2.2.cell 0 (by simp), h.2.2.2.cell 1 (by simp), h.2.2.2.cell 2 (by simp)⟩

/-- The call's own row of numbers, or none. -/
def NumRow (w : World) (base : Nat) (S : Value) (ns : List Int) : Prop := w.ownsRow base 35 1 S ns.length (u32s ns)
theorem NumRow.nil (w : World) (base : Nat) : NumRow w base (.slice none 0 0) [] := ⟨rfl, .inl ⟨rfl, rfl⟩⟩
theorem NumRow.rise {w u : World} {base : Nat} {S : Value} {ns : List Int} (h : NumRow w base S ns) (hb : Below w.heap.size w u) : NumRow u base S ns :=
  ⟨h.1, h.2.imp id fun ⟨g', c', cur, hv, hg, hc, r⟩ => ⟨g', c', cur, hv, hg, (hb.block g' (lt_of_block hc)).trans hc, r⟩⟩
theorem NumRow.block {w : World} {base : Nat} {S : Value} {ns : List Int} (h : NumRow w base S ns) : ∀ g, S.ownBlock = some g → base ≤ g := by
  intro g hg
  rcases h.2 with ⟨rfl, _⟩ | ⟨g', c', cur, rfl, hb, _⟩
  · simp [Value.ownBlock] at hg
  · have : g' = g := by simpa [Value.ownBlock] using hg
    omega
theorem NumRow.of {w : World} {base g cap j : Nat} {ns : List Int} (h : OwnG w base 35 g cap (u32s ns)) (hj : ns.length = j) : NumRow w base (.slice (some ⟨g, 0, none⟩) j cap) ns := by
  subst hj
  unfold NumRow
  have := h
  unfold OwnG at this
  rwa [u32s_len] at this
theorem NumRow.kept {w w' : World} {base : Nat} {S : Value} {ns : List Int} {row : Option Nat} (h : NumRow w base S ns) (hg : w.grownBy w' row) (hrow : ∀ g, row = some g → g < base) : NumRow w' base S ns :=
  ⟨h.1, h.2.imp id fun ⟨g', c', cur, hv, hb, hc, r⟩ => ⟨g', c', cur, hv, hb, (hg.block g' (lt_of_block hc) (fun e => by have := hrow g' e.symm; omega)).trans hc, r⟩⟩
theorem KeptD.row {w wo : World} {G : Nat} {z p b : Int} {u v : World} {row : Option Nat} (h : KeptD w wo G z p b u) (hw : w.heap.size < wo.heap.size) (hr : u.grownBy v row) (hrow : ∀ g, row = some g → G < g ∧ wo.heap.size ≤ g) : KeptD w wo G z p b v :=
  ⟨h.1.grown hr h.1.size (fun j hj => by have := hrow j hj; omega), h.2.1.grown hr h.2.1.size (fun j hj => by have := hrow j hj; omega), h.2.2.1.kept hr (fun e => by have := hrow _ e.symm; omega), h.2.2.2.kept hr (fun e => by have := hrow _ e.symm; omega)⟩
/-- append of one number onto a row of the call's own, as one step of a region that draws. -/
theorem stepN {ops : Array Oper} {o : Oper} {a : Act} {w : World} {K : Act → World → Prop} {Q : Exit → Act → World → Prop} {E : Prop} (hgd : o.guard = none) (s x : Operand) (ho : o.op = .call { callee := .builtin .append, args := #[s, x], argTypes := #[38, 38] })
    (base n c B : Nat) (S : Value) (ns : List Int) (v : Int) (hs : a.eval s = S) (hown : NumRow w base S ns) (hn : ns.length = n) (hx : a.eval x = .slice (some ⟨B, 0, none⟩) 1 c) (hc : w.cell? ⟨B, 0, none⟩ = some (.int .u32 v)) (hlen : n ≤ 100000) (hbase : base ≤ w.heap.size)
    (h : ∀ g' cap' w', OwnG w' base 35 g' cap' (u32s (ns ++ [v])) → w.grownBy w' S.ownBlock → K (a.put o.dst (.slice (some ⟨g', 0, none⟩) (n + 1) cap')) w') :
    if Region.wanted o (yielded ops a.tmps) = true then Oper.wp Tryz.prog o a w K Q else E := by
  obtain ⟨i0, hi, hz0, hz1, hz2⟩ := info_parts infoU32
  subst hn
  refine step_append_lies w hgd s x 38 ho base 35 i0 (.int .u32 0) 1 4 Tryz.underlying38 hi hz0 hz1 hz2 rfl (by decide) S ns.length (u32s ns) hs hown ⟨B, 0, none⟩ 1 c (u32s [v]) hx (by simp [u32s]) (fun j u hj => ?_) (one_u32s _) (by omega) (by unfold maxLen; omega) (by omega) hbase w.heap.size rfl ?_
  · have hj0 : j = 0 := by
      have := (List.getElem?_eq_some_iff.1 hj).1
      rw [u32s_len] at this
      simpa using this
    subst hj0
    simp [u32s] at hj
    subst hj
    simpa [Addr.add] using hc
  · intro g' cap' w' h2 h3 _ _
    refine h g' cap' w' ?_ h3
    unfold OwnG
    rw [u32s_len, List.length_append]
    have e : u32s (ns ++ [v]) = u32s ns ++ u32s [v] := by simp [u32s]
    rw [e]
    exact h2
/-- The numbers from 6 on. -/
def dirUp (all : List Int) (j : Nat) : List Int := (List.range j).map fun i => numAt all (6 + i)
theorem dirUp_len (all : List Int) (j : Nat) : (dirUp all j).length = j := by simp [dirUp]
theorem dirUp_succ (all : List Int) (j : Nat) : dirUp all (j + 1) = dirUp all j ++ [numAt all (6 + j)] := by simp [dirUp, List.range_succ]

end Go.Proofs.YthmpimjmajoimaaGreatDoor
namespace Go.Proofs.YthmpimjmajoimaaGreatDoor

def Word4 (n : Int) : Prop := 0 ≤ n ∧ n ≤ 4294967295
def Words4 (ns : List Int) : Prop := ∀ n ∈ ns, Word4 n
theorem flatM_cons (n : Int) (ns : List Int) : flatM (n :: ns) = (n % 256) :: (n / 256 % 256) :: (n / 65536 % 256) :: (n / 16777216 % 256) :: flatM ns := rfl
theorem flatM_app (xs ys : List Int) : flatM (xs ++ ys) = flatM xs ++ flatM ys := by simp [flatM]
theorem byt_flatM' (ns : List Int) : Byt (flatM ns) := by
  induction ns with
  | nil => exact Byt.nil
  | cons n ns ih => exact (byt_four n).app ih
theorem numAt_zero (n : Int) (ns ys : List Int) (h : Word4 n) : numAt (flatM (n :: ns) ++ ys) 0 = n := back_four h.1 h.2
theorem numAt_succ (n : Int) (ns ys : List Int) (i : Nat) : numAt (flatM (n :: ns) ++ ys) (i + 1) = numAt (flatM ns ++ ys) i := by
  unfold numAt bk
  rw [flatM_cons]
  rw [show 4 * (i + 1) = 4 * i + 1 + 1 + 1 + 1 by omega]
  simp only [List.cons_append, List.getD_cons_succ]
theorem numAt_flat {ns : List Int} (h : Words4 ns) (ys : List Int) (i : Nat) (hi : i < ns.length) : numAt (flatM ns ++ ys) i = ns[i] := by
  induction ns generalizing i with
  | nil => simp at hi
  | cons n ns ih =>
    cases i with
    | zero => exact numAt_zero n ns ys (h n (by simp))
    | succ i =>
      rw [numAt_succ]
      simpa using ih (fun x hx => h x (by simp [hx])) i (by simpa using hi)
/-- What a geometry that may be is bounded by. -/
theorem rightB_bd {z p b : Int} (h : rightB z p b = true) : (11 ≤ z ∧ z ≤ 24) ∧ (4 ≤ p ∧ p ≤ 16) ∧ (1 ≤ b ∧ b ≤ 64) ∧ 1 ≤ tab b ∧ tab b ≤ 16 ∧ tab b ≤ p := by
  unfold rightB at h
  simp only [decide_eq_true_eq] at h
  have h3 := (bnd_bd z p).2
  have h4 := bnd_room (z := z) (p := p) (by omega)
  have h5 := tab_le (n := b) (by omega) (by omega)
  have h6 := insB_iff.1 h4.1
  have h7 : tab b ≤ tab (bnd z p) := by
    rw [tab_pos (by omega), tab_pos (by omega)]
    omega
  omega
section
variable {nu se sq z p b : Int} {dir : List Int} {T : Nat}

theorem encC_is (hT : dir.length = T) : encC nu se sq z p b dir = flatM (numsC nu se sq z p b dir ++ [sumN (bodyC nu se sq z p b dir)]) ++ List.replicate ((16 - (28 + 4 * T) % 16) % 16) 0 := by
  unfold encC padB
  rw [flatM_app]
  have e : flatM [sumN (bodyC nu se sq z p b dir)] = four (sumN (bodyC nu se sq z p b dir)) := rfl
  rw [e]
  have hl : (bodyC nu se sq z p b dir ++ four (sumN (bodyC nu se sq z p b dir))).length = 28 + 4 * T := by
    rw [List.length_append, bodyC_len, four_len, hT]
    omega
  rw [hl]
  rfl
theorem encC_len (hT : dir.length = T) : (encC nu se sq z p b dir).length = 16 * ((43 + 4 * T) / 16) := by
  rw [encC_is hT, List.length_append, flatM_len, List.length_append, List.length_replicate]
  simp [numsC, hT]
  omega
theorem encC_take (hT : dir.length = T) : (encC nu se sq z p b dir).take (24 + 4 * T) = bodyC nu se sq z p b dir := by
  unfold encC padB
  rw [List.append_assoc, List.take_append_of_le_length (by rw [bodyC_len, hT]; omega), List.take_of_length_le (by rw [bodyC_len, hT]; omega)]
theorem encC_drop (hT : dir.length = T) : (encC nu se sq z p b dir).drop (28 + 4 * T) = List.replicate ((16 - (28 + 4 * T) % 16) % 16) 0 := by
  rw [encC_is hT, List.drop_append_of_le_length (by rw [flatM_len, List.length_append]; simp [numsC, hT]; omega), List.drop_of_length_le (by rw [flatM_len, List.length_append]; simp [numsC, hT]; omega), List.nil_append]
theorem byt_enc : Byt (encC nu se sq z p b dir) := by
  rw [encC_is rfl]
  exact (byt_flatM' _).app (byt_zeros _)
theorem sum_word (xs : List Int) : Word4 (sumN xs) := by
  have := sumN_bd xs
  exact ⟨this.1, by omega⟩
theorem encC_num (hw : Words4 (numsC nu se sq z p b dir)) (i : Nat) (hi : i < 6 + dir.length) : numAt (encC nu se sq z p b dir) i = (numsC nu se sq z p b dir)[i]'(by simp [numsC]; omega) := by
  rw [encC_is rfl, numAt_flat (fun x hx => by
    rcases List.mem_append.1 hx with hx | hx
    · exact hw x hx
    · obtain rfl := List.mem_singleton.1 hx
      exact sum_word _) _ i (by simp [numsC]; omega)]
  rw [List.getElem_append_left (by simp [numsC]; omega)]
theorem encC_sum (hw : Words4 (numsC nu se sq z p b dir)) : numAt (encC nu se sq z p b dir) (6 + dir.length) = sumN (bodyC nu se sq z p b dir) := by
  rw [encC_is rfl, numAt_flat (fun x hx => by
    rcases List.mem_append.1 hx with hx | hx
    · exact hw x hx
    · obtain rfl := List.mem_singleton.1 hx
      exact sum_word _) _ (6 + dir.length) (by simp [numsC]; omega)]
  rw [List.getElem_append_right (by simp [numsC]; omega)]
  simp [numsC]
end
end Go.Proofs.YthmpimjmajoimaaGreatDoor
namespace Go.Proofs.YthmpimjmajoimaaGreatDoor

section
variable {nu se sq z p b : Int} {dir : List Int}
theorem right_parts {n : Nat} (h : rightC z p b n = true) : rightB z p b = true ∧ (n : Int) = tab b := by
  unfold rightC at h
  simpa using h
theorem blocksC_len (h : rightC z p b dir.length = true) : ((blocksC nu se sq z p b dir).length : Int) = manyC b := by
  have ht := (right_parts h).2
  unfold blocksC manyC
  rw [chunks_len, encC_len rfl]
  omega
theorem blocksC_flat : (blocksC nu se sq z p b dir).flatten = encC nu se sq z p b dir := by
  unfold blocksC
  exact chunks_flat (by rw [encC_len rfl]; omega)
theorem chunks_16 {k : Nat} {xs : List Int} (h : xs.length = 16 * k) : ∀ x ∈ chunks k xs, x.length = 16 := by
  induction k generalizing xs with
  | zero => intro x hx; simp [chunks] at hx
  | succ k ih =>
    intro x hx
    simp only [chunks, List.mem_cons] at hx
    rcases hx with rfl | hx
    · simp; omega
    · exact ih (xs := xs.drop 16) (by simp; omega) x hx
theorem blocksC_16 : ∀ x ∈ blocksC nu se sq z p b dir, x.length = 16 := by
  unfold blocksC
  exact chunks_16 (by rw [encC_len rfl]; omega)
theorem blocksC_byt : ∀ x ∈ blocksC nu se sq z p b dir, Byt x := by
  intro x hx y hy
  have h := byt_enc (nu := nu) (se := se) (sq := sq) (z := z) (p := p) (b := b) (dir := dir)
  rw [← blocksC_flat] at h
  exact h y (List.mem_flatten.2 ⟨x, hx, hy⟩)
theorem nums_words (h : rightC z p b dir.length = true) (hw : Words4 (nu :: se :: sq :: dir)) : Words4 (numsC nu se sq z p b dir) := by
  have hb := rightB_bd (right_parts h).1
  intro x hx
  unfold numsC at hx
  simp only [List.mem_cons] at hx
  rcases hx with rfl | rfl | rfl | rfl | rfl | rfl | hx
  · exact hw _ (by simp)
  · exact hw _ (by simp)
  · exact hw _ (by simp)
  · exact ⟨by omega, by omega⟩
  · exact ⟨by omega, by omega⟩
  · exact ⟨by omega, by omega⟩
  · exact hw _ (by simp [hx])

/-- What the blocks of a checkpoint that may be say. -/
theorem blocksC_num (h : rightC z p b dir.length = true) (hw : Words4 (nu :: se :: sq :: dir)) (i : Nat) (hi : i < 6 + dir.length) : numAt (blocksC nu se sq z p b dir).flatten i = (numsC nu se sq z p b dir)[i]'(by simp [numsC]; omega) := by
  rw [blocksC_flat]
  exact encC_num (nums_words h hw) i hi
theorem read_blocks (h : rightC z p b dir.length = true) (hw : Words4 (nu :: se :: sq :: dir)) : readGE (blocksC nu se sq z p b dir) = 0 := by
  have hp := right_parts h
  have hb := rightB_bd hp.1
  have n3 := blocksC_num h hw 3 (by omega)
  have n4 := blocksC_num h hw 4 (by omega)
  have n5 := blocksC_num h hw 5 (by omega)
  simp only [numsC, List.getElem_cons_succ, List.getElem_cons_zero] at n3 n4 n5
  have hl := blocksC_len (nu := nu) (se := se) (sq := sq) h
  have hT : (tab b).toNat = dir.length := by omega
  unfold readGE
  have hall : ((blocksC nu se sq z p b dir).all fun x => decide (x.length = 16)) = true := List.all_eq_true.2 (fun x hx => by simpa using blocksC_16 x hx)
  have h2 : 2 ≤ (blocksC nu se sq z p b dir).length := by
    unfold manyC at hl
    omega
  rw [if_neg (by rw [hall]; simp [h2]), n3, n4, n5, if_neg (by rw [hp.1]; decide), if_neg (by omega), hT, blocksC_flat, encC_take rfl, encC_sum (nums_words h hw), if_neg (by simp), encC_drop rfl, if_neg (by simp)]
theorem read_dir (h : rightC z p b dir.length = true) (hw : Words4 (nu :: se :: sq :: dir)) : readDir (blocksC nu se sq z p b dir) = dir := by
  have hp := right_parts h
  have n5 := blocksC_num h hw 5 (by omega)
  simp only [numsC, List.getElem_cons_succ, List.getElem_cons_zero] at n5
  have hT : (tab b).toNat = dir.length := by omega
  unfold readDir
  rw [n5, hT]
  refine List.ext_getElem (by simp) fun i h1 h2 => ?_
  rw [List.getElem_map, List.getElem_range]
  have := blocksC_num h hw (6 + i) (by omega)
  rw [this]
  simp only [numsC, Nat.add_comm 6 i, List.getElem_cons_succ]
end

/-! ### what reading says of the blocks -/
/-- Everything that reading looks at. -/
theorem read_parts {l : List (List Int)} (h : readGE l = 0) : (2 ≤ l.length ∧ (∀ x ∈ l, x.length = 16)) ∧ rightB (numAt l.flatten 3) (numAt l.flatten 4) (numAt l.flatten 5) = true ∧ (l.length : Int) = manyC (numAt l.flatten 5) ∧
    sumN (l.flatten.take (24 + 4 * (tab (numAt l.flatten 5)).toNat)) = numAt l.flatten (6 + (tab (numAt l.flatten 5)).toNat) ∧ (∀ x ∈ l.flatten.drop (28 + 4 * (tab (numAt l.flatten 5)).toNat), x = 0) := by
  unfold readGE at h
  split at h
  · omega
  · rename_i h1
    split at h
    · omega
    · rename_i h2
      split at h
      · omega
      · rename_i h3
        split at h
        · omega
        · rename_i h4
          split at h
          · omega
          · rename_i h5
            simp only [Bool.not_eq_false, Bool.and_eq_true, decide_eq_true_eq, List.all_eq_true] at h1 h2 h5
            exact ⟨h1, h2, by omega, by omega, h5⟩
theorem flat_len16 {l : List (List Int)} (h : ∀ x ∈ l, x.length = 16) : l.flatten.length = 16 * l.length := by
  induction l with
  | nil => rfl
  | cons a l ih =>
    rw [List.flatten_cons, List.length_append, h a (by simp), ih (fun x hx => h x (by simp [hx])), List.length_cons]
    omega
end Go.Proofs.YthmpimjmajoimaaGreatDoor
namespace Go.Proofs.YthmpimjmajoimaaGreatDoor

theorem numAt_congr {A B : List Int} {i : Nat} (h0 : A.getD (4 * i) 0 = B.getD (4 * i) 0) (h1 : A.getD (4 * i + 1) 0 = B.getD (4 * i + 1) 0) (h2 : A.getD (4 * i + 2) 0 = B.getD (4 * i + 2) 0) (h3 : A.getD (4 * i + 3) 0 = B.getD (4 * i + 3) 0) : numAt A i = numAt B i := by
  unfold numAt bk
  rw [h0, h1, h2, h3]
theorem numAt_none {A : List Int} {i : Nat} (h0 : A.getD (4 * i) 0 = 0) (h1 : A.getD (4 * i + 1) 0 = 0) (h2 : A.getD (4 * i + 2) 0 = 0) (h3 : A.getD (4 * i + 3) 0 = 0) : numAt A i = 0 := by
  unfold numAt bk
  rw [h0, h1, h2, h3]
  rfl
theorem getD_byt {A : List Int} (h : Byt A) (i : Nat) : 0 ≤ A.getD i 0 ∧ A.getD i 0 ≤ 255 := by
  rw [List.getD_eq_getElem?_getD]
  by_cases h' : i < A.length
  · rw [List.getElem?_eq_getElem h']; exact h.get i h'
  · rw [List.getElem?_eq_none (by omega)]; simp
theorem getD_take {A : List Int} {n i : Nat} (h : i < n) : (A.take n).getD i 0 = A.getD i 0 := by
  rw [List.getD_eq_getElem?_getD, List.getD_eq_getElem?_getD, List.getElem?_take_of_lt h]
theorem take_flatten16 {l : List (List Int)} (h : ∀ x ∈ l, x.length = 16) (m : Nat) : (l.take m).flatten = l.flatten.take (16 * m) := by
  induction l generalizing m with
  | nil => simp
  | cons a l ih =>
    have ha := h a (by simp)
    cases m with
    | zero => simp
    | succ m =>
      rw [List.take_succ_cons, List.flatten_cons, List.flatten_cons, ih (fun x hx => h x (by simp [hx])), List.take_append]
      rw [List.take_of_length_le (l := a) (by omega), ha]
      congr 2

section
variable {nu se sq z p b nu2 se2 sq2 z2 p2 b2 : Int} {dir dir2 : List Int}
/-- They fit into a zone. -/
theorem many_fits (h : rightC z p b dir.length = true) : manyC b ≤ p := by
  have hr := rightB_bd (right_parts h).1
  unfold manyC
  omega
end
end Go.Proofs.YthmpimjmajoimaaGreatDoor
