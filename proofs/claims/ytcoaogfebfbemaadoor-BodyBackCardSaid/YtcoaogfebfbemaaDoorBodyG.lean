/-
  What blocks say comes back; platelayerlaw05.awake answers true.
-/
import Derived.Test.YtcoaogfebfbemaaDoorBodyF
import Derived.Deep.RegionWith
namespace Go.Proofs.YtcoaogfebfbemaaDoor
open Go.RowKit

theorem flat4_len (a b c d : Int) : (flat [a, b, c, d]).length = 16 := rfl
theorem byt_flat4 (a b c d : Int) : Byt (flat [a, b, c, d]) := by
  have e : flat [a, b, c, d] = four a ++ (four b ++ (four c ++ (four d ++ []))) := rfl
  rw [e]
  exact (byt_four a).app ((byt_four b).app ((byt_four c).app ((byt_four d).app Byt.nil)))
theorem toE_flat (a b c d : Int) : toE (flat [a, b, c, d]) = 0 := rfl
theorem toN_flat0 {a : Int} (b c d : Int) (h : Word a) : toN (flat [a, b, c, d]) 0 = a := back_four h.1 h.2
theorem toN_flat1 (a : Int) {b : Int} (c d : Int) (h : Word b) : toN (flat [a, b, c, d]) 1 = b := back_four h.1 h.2
theorem toN_flat2 (a b : Int) {c : Int} (d : Int) (h : Word c) : toN (flat [a, b, c, d]) 2 = c := back_four h.1 h.2
theorem toN_flat3 (a b c : Int) {d : Int} (h : Word d) : toN (flat [a, b, c, d]) 3 = d := back_four h.1 h.2
theorem toV_flat {a b c d : Int} (ha : Word a) (hb : Word b) (hc : Word c) (hd : Word d) : toV (flat [a, b, c, d]) = pV a b c d := by
  unfold toV
  rw [toN_flat0 b c d ha, toN_flat1 a c d hb, toN_flat2 a b d hc, toN_flat3 a b c hd]
theorem trimE_flat {n : Int} (h : Word n) : trimE (flat [n, 0, 0, 0]) = if n = 0 then 2 else 0 := by
  rw [trimE_is, toE_flat, toN_flat0 _ _ _ h, toN_flat1 _ _ _ word0, toN_flat2 _ _ _ word0, toN_flat3 _ _ _ word0]
  unfold trE
  by_cases h0 : n = 0 <;> simp [h0]
theorem trimN_flat {n : Int} (h : Word n) : trimN (flat [n, 0, 0, 0]) = n := by
  unfold trimN
  rw [trimE_flat h, toN_flat0 _ _ _ h]
  by_cases h0 : n = 0 <;> simp [h0]

/-- Bytes come back from the addresses that they say. -/
theorem flat_back {xs : List Int} (hl : xs.length = 16) (hx : Byt xs) : flat [toN xs 0, toN xs 1, toN xs 2, toN xs 3] = xs := by
  simp only [toN_yes hl]
  have g : ∀ k, 0 ≤ xs.getD k 0 ∧ xs.getD k 0 ≤ 255 := fun j => by
    rw [List.getD_eq_getElem?_getD]
    by_cases h : j < xs.length
    · rw [List.getElem?_eq_getElem h]; exact hx.get j h
    · rw [List.getElem?_eq_none (by omega)]; simp
  have f : ∀ k, four (bk xs k) = [xs.getD k 0, xs.getD (k + 1) 0, xs.getD (k + 2) 0, xs.getD (k + 3) 0] := fun k => four_back (g k).1 (g k).2 (g (k + 1)).1 (g (k + 1)).2 (g (k + 2)).1 (g (k + 2)).2 (g (k + 3)).1 (g (k + 3)).2
  have e : flat [bk xs (4 * 0), bk xs (4 * 1), bk xs (4 * 2), bk xs (4 * 3)] = four (bk xs 0) ++ (four (bk xs 4) ++ (four (bk xs 8) ++ (four (bk xs 12) ++ []))) := rfl
  rw [e, f, f, f, f]
  clear e f g hx
  refine List.ext_getElem (by simpa using hl.symm) fun i h1 h2 => ?_
  have hi : i < 16 := by omega
  rcases i with _ | _ | _ | _ | _ | _ | _ | _ | _ | _ | _ | _ | _ | _ | _ | _ | i
  all_goals first | omega | (simp [List.getD_eq_getElem?_getD, hl])

/-- A block comes back. -/
theorem to_back {A : Option Addr} {n c : Nat} {w : World} {a0 a1 a2 a3 : Int} (h0 : Word a0) (h1 : Word a1) (h2 : Word a2) (h3 : Word a3) (hr : Rd w w.heap.size A (flat [a0, a1, a2, a3])) (hn : 16 = n) (hc : n ≤ c) :
    Calls Tryd.prog 6 #[.slice A n c] w fun r w' => r = .returned (.tuple #[pV a0 a1 a2 a3, .nilIface]) ∧ Below w.heap.size w w' := by
  have := to_all hr (byt_flat4 _ _ _ _) (by rw [flat4_len]; exact hn) hc
  unfold ToIs at this
  rwa [toV_flat h0 h1 h2 h3, toE_flat, show errV 0 = Value.nilIface from if_pos rfl] at this
theorem trim_back {A : Option Addr} {k c : Nat} {w : World} {n : Int} (h : Word n) (hr : Rd w w.heap.size A (flat [n, 0, 0, 0])) (hn : 16 = k) (hc : k ≤ c) :
    Calls Tryd.prog 8 #[.slice A k c] w fun r w' => r = .returned (.tuple #[.int .u32 n, errV (if n = 0 then 2 else 0)]) ∧ Below w.heap.size w w' := by
  have := trim_all hr (byt_flat4 _ _ _ _) (by rw [flat4_len]; exact hn) hc
  unfold TrimIs at this
  rwa [trimE_flat h, trimN_flat h] at this

/-- The bytes of the document's example. -/
def exB : List Int := [1, 0, 0, 0, 0, 0, 0, 0, 2, 1, 0, 0, 0, 0, 0, 0]
theorem ex_flat : flat [1, 0, 258, 0] = exB := by decide
theorem ex_lit (w : World) : Rd (w.alloc (.cells #[.int .u8 1, .int .u8 0, .int .u8 0, .int .u8 0, .int .u8 0, .int .u8 0, .int .u8 0, .int .u8 0, .int .u8 2, .int .u8 1, .int .u8 0, .int .u8 0, .int .u8 0, .int .u8 0, .int .u8 0, .int .u8 0] 5)) (w.heap.size + 1) (some ⟨w.heap.size, 0, none⟩) exB := by
  intro _
  refine ⟨w.heap.size, 0, rfl, by omega, fun i hi => ?_⟩
  have hi' : i < 16 := hi
  rcases i with _ | _ | _ | _ | _ | _ | _ | _ | _ | _ | _ | _ | _ | _ | _ | _ | i
  all_goals first | omega | simp [exB]
theorem word_of {n : Int} (h : (decide (0 ≤ n) && decide (n ≤ 4294967295)) = true) : Word n := by
  simp only [Bool.and_eq_true, decide_eq_true_eq] at h
  exact h
theorem same_self {A A2 : Option Addr} {X : List Int} {n m c c2 : Nat} {w : World} (h1 : Rd w w.heap.size A X) (h2 : Rd w w.heap.size A2 X) (hl : X.length = n) (hl2 : X.length = m) (hn : X.length ≤ 20000) : Calls Tryd.prog 10 #[.slice A n c, .slice A2 m c2] w (BoolB true w) := by
  have := same_is (c := c) (c2 := c2) h1 h2 hl hl2 (by omega)
  rwa [decide_eq_true (rfl : X = X)] at this

theorem same16 {A A2 : Option Addr} {a b c d : Int} {k k2 : Nat} {w : World} (h1 : Rd w w.heap.size A (flat [a, b, c, d])) (h2 : Rd w w.heap.size A2 (flat [a, b, c, d])) : Calls Tryd.prog 10 #[.slice A 16 k, .slice A2 16 k2] w (BoolB true w) :=
  same_self h1 h2 (flat4_len a b c d) (flat4_len a b c d) (by rw [flat4_len]; omega)

set_option maxHeartbeats 2000000 in
set_option maxRecDepth 100000 in
theorem bawake_true {w : World} (hg : Gl w) : Calls Tryd.prog 5 #[] w (TrueB w) := by
  have HG := Lib.hid hg
  clear hg
  have hw1 : Word 1 := word_of rfl
  have hw258 : Word 258 := word_of rfl
  have hw7 : Word 7 := word_of rfl
  have HW := Lib.hid (And.intro hw1 (And.intro hw258 hw7))
  clear hw1 hw258 hw7
  go_enter Tryd.func5, Tryd.ntmps5
  go_wp2_with fail
  refine (of_is 1 0 258 0 w (Words.four HW.out.1 word0 HW.out.2.1 word0)).mono ?_
  rintro r w1 ⟨g1, c1, rfl, hr, hc1, hb⟩
  have HB1 := Lib.hid hb
  have HR1 := Lib.hid hr
  clear hb hr
  go_wp2_with fail
  refine (to_back HW.out.1 word0 HW.out.2.1 word0 HR1.out rfl hc1).mono ?_
  rintro r w2 ⟨rfl, hb⟩
  have hb2 : Below w1.heap.size w1 (w2.alloc (.cells #[.int .u32 1, .int .u32 0, .int .u32 258, .int .u32 0] 24)) := hb.alloc hb.size _
  have HB2 := Lib.hid (HB1.out.trans (hb2.mono HB1.out.size))
  have HR2 := Lib.hid ((HR1.out.below hb2).mono hb2.size)
  have HL2 := Lib.hid (blk_new w2 1 0 258 0 24)
  clear hb hb2 HB1 HR1
  go_wp2_with fail
  obtain ⟨B, hB⟩ : ∃ B, w2.heap.size = B := ⟨_, rfl⟩
  rw [hB] at HL2 ⊢
  clear hB
  obtain ⟨w3, hw3⟩ : ∃ w3 : World, w3 = w2.alloc (.cells #[.int .u32 1, .int .u32 0, .int .u32 258, .int .u32 0] 24) := ⟨_, rfl⟩
  rw [← hw3] at HB2 HR2 HL2 ⊢
  clear hw3
  refine (oft_is 7 w3 HW.out.2.2).mono ?_
  rintro r w4 ⟨g4, c4, rfl, hr, hc4, hb⟩
  have HB4 := Lib.hid (HB2.out.trans (hb.mono HB2.out.size))
  have HR4 := Lib.hid ((HR2.out.below hb).mono hb.size)
  have HL4 := Lib.hid (HL2.out.up hb (lt_of_block HL2.out))
  have HT4 := Lib.hid hr
  clear hb hr HB2 HR2 HL2
  go_wp2_with fail
  refine (trim_back HW.out.2.2 HT4.out rfl hc4).mono ?_
  rw [if_neg (by omega), show errV 0 = Value.nilIface from if_pos rfl]
  rintro r w5 ⟨rfl, hb⟩
  have HB5 := Lib.hid (HB4.out.trans (hb.mono HB4.out.size))
  have HR5 := Lib.hid ((HR4.out.below hb).mono hb.size)
  have HL5 := Lib.hid (HL4.out.up hb (lt_of_block HL4.out))
  clear hb HB4 HR4 HL4 HT4
  go_wp2_with fail
  refine (oft_is 0 w5 word0).mono ?_
  rintro r w6 ⟨g6, c6, rfl, hr, hc6, hb⟩
  have HB6 := Lib.hid (HB5.out.trans (hb.mono HB5.out.size))
  have HR6 := Lib.hid ((HR5.out.below hb).mono hb.size)
  have HL6 := Lib.hid (HL5.out.up hb (lt_of_block HL5.out))
  have HT6 := Lib.hid hr
  clear hb hr HB5 HR5 HL5
  go_wp2_with fail
  refine (trim_back word0 HT6.out rfl hc6).mono ?_
  rw [if_pos rfl, show errV 2 = Value.iface 31 (.int .i64 2) from if_neg (by omega)]
  rintro r w7 ⟨rfl, hb⟩
  have hb7 : Below w6.heap.size w6 (w7.alloc (.cells #[.int .u8 1, .int .u8 0, .int .u8 0, .int .u8 0, .int .u8 0, .int .u8 0, .int .u8 0, .int .u8 0, .int .u8 2, .int .u8 1, .int .u8 0, .int .u8 0, .int .u8 0, .int .u8 0, .int .u8 0, .int .u8 0] 5)) := hb.alloc hb.size _
  have HB7 := Lib.hid (HB6.out.trans (hb7.mono HB6.out.size))
  have HR7 := Lib.hid ((HR6.out.below hb7).mono hb7.size)
  have HL7 := Lib.hid (HL6.out.up hb7 (lt_of_block HL6.out))
  have HX7 := Lib.hid (ex_lit w7)
  clear hb hb7 HB6 HR6 HL6 HT6
  go_wp2_with fail
  refine (same_self (by have := HR7.out; rwa [ex_flat] at this) (HX7.out.mono (by simp)) rfl rfl (by decide)).mono ?_
  rintro r w8 ⟨rfl, hb⟩
  have HB8 := Lib.hid (HB7.out.trans (hb.mono HB7.out.size))
  have HL8 := Lib.hid (HL7.out.up hb (lt_of_block HL7.out))
  clear hb HB7 HR7 HL7 HX7
  have h0 := HL8.out.cell 0 (by simp)
  have h1 := HL8.out.cell 1 (by simp)
  have h2 := HL8.out.cell 2 (by simp)
  have h3 := HL8.out.cell 3 (by simp)
  have he := eql_places 1 0 258 0 1 0 258 0
  rw [show same4 1 0 258 0 1 0 258 0 = true from rfl] at he
  have hgd := guard_places .eql
  go_wp2_with fail
  refine (code_errno 2 (HG.out.below HB8.out)).mono ?_
  rintro r w9 ⟨rfl, hb⟩
  have HB9 := Lib.hid (HB8.out.trans (hb.mono HB8.out.size))
  clear hb HB8
  go_wp2_with fail
  go_ret
  exact ⟨rfl, HB9.out⟩
end Go.Proofs.YtcoaogfebfbemaaDoor
