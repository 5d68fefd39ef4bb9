/-
  The document's four and OfPlaces.
-/
import Derived.Test.YtcoaogfebfbemaaDoorBlkB
namespace Go.Proofs.YtcoaogfebfbemaaDoor
open Go.RowKit

theorem Own8.mem {w : World} {base g cap : Nat} {xs : List Int} (h : Own8 w base g cap xs) : base ≤ g ∧ g < w.heap.size := by
  rcases h.2 with ⟨h', _⟩ | ⟨_, _, _, h', hb, hg, _⟩
  · simp at h'
  · injection h' with h' _ _
    injection h' with h'
    injection h' with h'
    subst h'
    exact ⟨hb, lt_of_block hg⟩
theorem Own8.rise {w w' : World} {base g cap : Nat} {xs : List Int} (h : Own8 w base g cap xs) (hb : Below w.heap.size w w') : Own8 w' base g cap xs :=
  ⟨h.1, h.2.imp id fun ⟨g', c', cur, hv, hg, hc, r⟩ => ⟨g', c', cur, hv, hg, (hb.block g' (lt_of_block hc)).trans hc, r⟩⟩
def u32s (ns : List Int) : List Value := ns.map (Value.int .u32)
theorem u32s_len (ns : List Int) : (u32s ns).length = ns.length := by simp [u32s]
abbrev pV (a b c d : Int) : Value := .agg #[.int .u32 a, .int .u32 b, .int .u32 c, .int .u32 d]
/-- A number of four bytes. -/
def Word (n : Int) : Prop := 0 ≤ n ∧ n ≤ 4294967295
theorem word0 : Word 0 := ⟨by omega, by omega⟩
def Words (ns : List Int) : Prop := ∀ n ∈ ns, Word n
theorem Words.four {a b c d : Int} (ha : Word a) (hb : Word b) (hc : Word c) (hd : Word d) : Words [a, b, c, d] := by
  intro n hn
  simp only [List.mem_cons, List.not_mem_nil, or_false] at hn
  rcases hn with rfl | rfl | rfl | rfl <;> assumption
theorem flat_take {ns : List Int} {i : Nat} (h : i < ns.length) : flat (ns.take i) ++ four ns[i] = flat (ns.take (i + 1)) := by
  rw [List.take_succ_eq_append_getElem h]
  unfold flat
  rw [List.flatMap_append]
  simp only [List.flatMap_cons, List.flatMap_nil, List.append_nil]

theorem putB_all {xs ys : List Int} (h : ys.length = xs.length) : putB xs 0 ys = ys := by
  unfold putB
  rw [List.take_zero, List.nil_append, Nat.zero_add, List.drop_of_length_le (by omega), List.append_nil]

/-- Four bytes of a number, in a new block. -/
def fourObj (n : Int) : Obj := .cells #[.int .u8 (n % 256), .int .u8 (n / 256 % 256), .int .u8 (n / 65536 % 256), .int .u8 (n / 16777216 % 256)] 5
def FourIs (n : Int) (w : World) (r : Ending) (w' : World) : Prop := r = .returned (.slice (some ⟨w.heap.size, 0, none⟩) 4 4) ∧ w' = w.alloc (fourObj n)
theorem four_is (n : Int) (w : World) (h : Word n) : Calls Tryd.prog 15 #[.int .u32 n] w (FourIs n w) := by
  obtain ⟨h0, h1⟩ := h
  have H1 : Hid (n / 16777216 % 256 = n / 16777216) := Lib.hid (by omega)
  go_enter Tryd.func15, Tryd.ntmps15
  go_wp2_with fail
  go_ret
  exact ⟨rfl, by unfold fourObj; rw [H1.out]⟩
theorem rd_four (n : Int) (w : World) : Rd (w.alloc (fourObj n)) (w.heap.size + 1) (some ⟨w.heap.size, 0, none⟩) (four n) := by
  intro _
  refine ⟨w.heap.size, 0, rfl, by omega, fun i hi => ?_⟩
  have hi' : i < 4 := hi
  rcases i with _ | _ | _ | _ | i
  all_goals first | omega | simp [four, fourObj]

/-- A row of bytes that is new. -/
def RowIs (xs : List Int) (n : Nat) (w : World) (r : Ending) (w' : World) : Prop := ∃ g c, r = .returned (.slice (some ⟨g, 0, none⟩) n c) ∧ Rd w' w'.heap.size (some ⟨g, 0, none⟩) xs ∧ n ≤ c ∧ Below w.heap.size w w'
set_option maxHeartbeats 1000000 in
theorem rof_is (a b c d : Int) (w : World) (h : Words [a, b, c, d]) : Calls Tryd.prog 12 #[pV a b c d] w (RowIs (flat [a, b, c, d]) 16 w) := by
  have HW := Lib.hid h
  clear h
  have HB0 := Lib.hid ((Below.refl w.heap.size w).alloc (Nat.le_refl _) (.cells #[.int .u32 a, .int .u32 b, .int .u32 c, .int .u32 d] 23))
  have HH0 : Hid (Blk (w.alloc (.cells #[.int .u32 a, .int .u32 b, .int .u32 c, .int .u32 d] 23)) w.heap.size 23 (u32s [a, b, c, d])) := Lib.hid (heap_alloc_new w _)
  go_enter Tryd.func12, Tryd.ntmps12
  go_wp2_with fail
  obtain ⟨w1, hw1⟩ : ∃ w1 : World, w1 = w.alloc (.cells #[.int .u32 a, .int .u32 b, .int .u32 c, .int .u32 d] 23) := ⟨_, rfl⟩
  have hz1 : w1.heap.size = w.heap.size + 1 := by rw [hw1]; simp
  rw [← hw1] at HB0 HH0 ⊢
  clear hw1
  have hs1 := lt_of_block HH0.out
  have HO0 := Lib.hid (Own8.none w1 (w.heap.size + 1) hs1)
  have HB1 := Lib.hid (HB0.out.alloc HB0.out.size (.cells #[] 5))
  have HH1 := Lib.hid (HH0.out.up (Below.alloc (Below.refl w1.heap.size w1) (Nat.le_refl _) (.cells #[] 5)) hs1)
  rw [hz1] at HO0
  clear hz1
  obtain ⟨ns, hns⟩ : ∃ ns, [a, b, c, d] = ns := ⟨_, rfl⟩
  have HNS := Lib.hid hns
  have hl : ns.length = 4 := by rw [← hns]; rfl
  rw [hns] at HH1 HW ⊢
  clear hns HB0 HH0
  go_loopg [3, 4] 4 (fun k s x wr => ∃ i g cap : Nat, i ≤ 4 ∧ k = 4 - i ∧ x = .int .i64 i ∧ s = .slice (some ⟨g, 0, none⟩) (4 * i) cap ∧ Own8 wr (w.heap.size + 1) g cap (flat (ns.take i)) ∧ Below w.heap.size w wr ∧ Blk wr w.heap.size 23 (u32s ns))
  case atStart => exact ⟨0, _, 0, by omega, by omega, rfl, rfl, HO0.out, HB1.out, HH1.out⟩
  case round =>
    clear HO0 HB1 HH1
    obtain ⟨i, g, cap, hi, hk, rfl, rfl, ho, hb, hh⟩ := hrel
    have HO := Lib.hid ho
    have HB := Lib.hid hb
    have HH := Lib.hid hh
    have HK := Lib.hid hk
    clear ho hb hh hk
    by_cases hlt : i < 4
    · have hln : i < ns.length := by omega
      have c0 := HH.out.cell i (by rw [u32s_len]; omega)
      rw [show (u32s ns)[i]'(by rw [u32s_len]; omega) = .int .u32 ns[i] by simp [u32s]] at c0
      have HF := Lib.hid (flat_take hln)
      have HN := Lib.hid (HW.out _ (List.getElem_mem hln))
      have HL : Hid ((flat (ns.take i)).length = 4 * i) := Lib.hid (by rw [flat_len]; simp; omega)
      generalize ns[i] = n at *
      go_wp2_with fail
      refine (four_is n _ HN.out).mono ?_
      rintro r w' ⟨rfl, rfl⟩
      have HB2 := Lib.hid (HB.out.alloc HB.out.size (fourObj n))
      have HO2 := Lib.hid (HO.out.rise (Below.alloc (Below.refl wr.heap.size wr) (Nat.le_refl _) (fourObj n)))
      have HH2 := Lib.hid (HH.out.up (Below.alloc (Below.refl wr.heap.size wr) (Nat.le_refl _) (fourObj n)) (lt_of_block HH.out))
      have HM := Lib.hid HO.out.mem
      clear HB HH c0
      go_wp2_with (first
        | (at_builtin; refine app8 _ rfl (.tmp 10) (.tmp 14) rfl (w.heap.size + 1) (wr.heap.size + 1) g cap (4 * i) 4 4 (flat (ns.take i)) (four n) (some ⟨wr.heap.size, 0, none⟩) rfl HO2.out HL.out rfl (rd_four n wr) rfl (fun h => by cases h) (by omega) (by omega) (by have := HM.out; simp; omega) ?_; intro g3 cap3 w3 ho hg; have HO3 := Lib.hid ho; have HB3 := Lib.hid (HB2.out.grown hg HB2.out.size (fun j hj => by injection hj; have := HM.out.1; omega)); have HH3 := Lib.hid (HH2.out.kept hg (fun e => by injection e; have := HM.out.1; omega)); clear ho hg HB2 HO2 HH2 HM HO)
        | fail)
      go_roundg (4 - (i + 1))
      case rel => exact ⟨i + 1, g3, cap3, by omega, rfl, by go_num, by rw [Nat.mul_add], by rw [← HF.out]; exact HO3.out, HB3.out, HH3.out⟩
      case measure => have := HK.out; omega
    · obtain rfl : i = 4 := by omega
      have HL : Hid ((flat ns).length = 16) := Lib.hid (by rw [flat_len, hl])
      go_wp2_with fail
      go_ret
      rw [List.take_of_length_le (by omega)] at HO
      have hc := HO.out.cap
      rw [HL.out] at hc
      rw [HNS.out]
      exact ⟨g, cap, rfl, HO.out.rd, hc, HB.out⟩
end Go.Proofs.YtcoaogfebfbemaaDoor
