/-
  Of: the landed chain's contract.
-/
import Derived.Test.YtckkgjggoopjiaaCnB
namespace Go.Proofs.Ytckkgjggoopjiaa
open Go.RowKit

set_option maxHeartbeats 2000000 in
set_option maxRecDepth 100000 in
theorem cnof_at {w : World} {A : Option Addr} {n c : Nat} (s q : Int) (l : List HdS) (hl : l.length = n) (hr : RdV w w.heap.size A (hsC l)) (hn : n ≤ 400) (hb : SeqOk l) (q0 : 0 ≤ q) (q1 : q < 4294967296) : Calls Try.prog 9 #[.int .u32 s, .int .u32 q, .slice A n c] w (PlsIs (HdS.chL s q l) w) := by
  have HSK := Lib.hid (cnseeker_at (c := c) s l hl hr hn hb)
  have HN := Lib.hid hl
  have HSO := Lib.hid hb
  clear hr hl hb
  go_enter Try.func9, Try.ntmps9
  go_wp2_with fail
  refine HSK.out.mono ?_
  rintro r w1 ⟨⟨XB, MB, rfl, hx, hm⟩, hb⟩
  have HX := Lib.hid hx
  have HM := Lib.hid hm
  have HBW := Lib.hid hb
  have HO1 : Hid (OwnK w1 w1.heap.size 3 1 (.slice none 0 0) 0 []) := Lib.hid (OwnK.nil w1 _ _ _)
  clear hx hm hb HSK
  go_wp2_with fail
  go_loopg [1, 7, 9, 10] n (fun g x u y z wr => ∃ (k : Nat) (ch : List Nat), k ≤ n ∧ g = n - k ∧ x = .int .u32 (q + (k : Int)) ∧ ch.length = k ∧ q + (k : Int) < 4294967296 ∧ (∀ j (hj : j < ch.length), HdS.findL s (q + 1 + (j : Int)) l = some ch[j]) ∧ OwnK wr w1.heap.size 3 1 u k (iCells (nats ch)) ∧ Below w1.heap.size w1 wr)
  case atStart => exact ⟨0, [], by omega, by omega, by simp, rfl, by simpa using q1, fun j hj => by simp at hj, HO1.out, Below.refl _ _⟩
  case round =>
    clear HO1
    obtain ⟨k, ch, hk, hg, rfl, hlen, hbd, hat, ho, hb⟩ := hrel
    have HG := Lib.hid hg
    have HLEN := Lib.hid hlen
    have HAT := Lib.hid hat
    have HO := Lib.hid ho
    have HB := Lib.hid hb
    have HNO : Hid (HdS.findL s (q + 1 + (k : Int)) l = none → ch = HdS.chL s q l) := Lib.hid (fun h => pre_none HAT.out (by rw [HLEN.out]; exact h))
    have HYE : Hid (∀ i, HdS.findL s (q + 1 + (k : Int)) l = some i → ∀ j (hj : j < (ch ++ [i]).length), HdS.findL s (q + 1 + (j : Int)) l = some (ch ++ [i])[j]) := Lib.hid (fun i h => pre_step HAT.out HLEN.out h)
    have HBO : Hid (q + (k : Int) = 4294967295 → HdS.findL s (q + 1 + (k : Int)) l = none) := Lib.hid (fun e => HdS.find_none.2 (fun x hx => hit_no3 (by have := HSO.out x hx; omega)))
    have HLT : Hid (∀ i, HdS.findL s (q + 1 + (k : Int)) l = some i → k < n) := Lib.hid (fun i h => by
      apply Classical.byContradiction
      intro hn2
      have e1 := pre_full HAT.out (by rw [HLEN.out, HN.out]; omega)
      have e2 := (HdS.ch_is s q l).no
      rw [← e1, HLEN.out, h] at e2
      cases e2)
    clear hg hlen hat ho hb
    have hq1 : q + 1 + (k : Int) = q + (k : Int) + 1 := by omega
    rw [hq1] at HNO HYE HBO HLT
    obtain ⟨sq, hsq⟩ : ∃ x, q + (k : Int) = x := ⟨_, rfl⟩
    have HSQ : Hid (q + ((k + 1 : Nat) : Int) = sq + 1) := Lib.hid (by omega)
    rw [hsq] at HNO HYE HBO HLT hbd ⊢
    have hs0 : 0 ≤ sq := by omega
    by_cases hmx : sq = 4294967295
    · have HC := Lib.hid (HNO.out (HBO.out hmx))
      have d : decide (sq < 4294967295) = false := by simp; omega
      have HE : Hid (PlsIs (HdS.chL s q l) w (.returned u7) wr) := Lib.hid (PlsIs.of (by rw [← HC.out, HLEN.out]; exact HO.out.le HBW.out.size) (below_all HBW.out HB.out))
      clear hmx hsq hq1 HNO HYE HBO HLT
      go_wp2_with fail
      go_ret
      exact HE.out
    · have d : decide (sq < 4294967295) = true := by simp; omega
      have hw1 : IntKind.u32.wrap (sq + 1) = sq + 1 := by
        rw [IntKind.wrap_u32]
        exact Int.emod_eq_of_lt (by omega) (by omega)
      have HXR : Hid (Boxed wr XB 43 (.map (some MB))) := Lib.hid ((HB.out.block XB HX.out.lt).trans HX.out)
      have HMR := Lib.hid (HM.out.up HB.out)
      have HFD := Lib.hid (cnseek_at (w := wr) (sq + 1) (by omega) (by omega) HXR.out HMR.out)
      have hbd2 : sq + 1 < 4294967296 := by omega
      cases hf : HdS.findL s (sq + 1) l with
      | none =>
        have HC := Lib.hid (HNO.out hf)
        rw [hf] at HFD
        clear hmx hsq hq1 HNO HYE HBO HLT hf
        go_wp2_with fail
        refine HFD.out.mono ?_
        rintro r w' ⟨rfl, hb2⟩
        have HE : Hid (PlsIs (HdS.chL s q l) w (.returned u7) w') := Lib.hid (PlsIs.of (by rw [← HC.out, HLEN.out]; exact (HO.out.up hb2).le HBW.out.size) (below_all HBW.out (below_all HB.out hb2)))
        clear hb2
        go_wp2_with fail
        go_ret
        exact HE.out
      | some i =>
        have HY := Lib.hid (HYE.out i hf)
        have hkn := HLT.out i hf
        rw [hf] at HFD
        clear hmx hsq hq1 HNO HYE HBO HLT hf
        go_wp2_with fail
        refine HFD.out.mono ?_
        rintro r w' ⟨rfl, hb2⟩
        have HO2 := Lib.hid (HO.out.up hb2)
        have HB2 := Lib.hid (below_all HB.out hb2)
        obtain ⟨w7, hw7⟩ : ∃ w7, w'.alloc (.cells #[.int .i64 (i : Int)] 3) = w7 := ⟨_, rfl⟩
        have hb7 : Below w'.heap.size w' w7 := by rw [← hw7]; exact (Below.refl _ _).alloc (Nat.le_refl _) _
        have HO7 := Lib.hid (HO2.out.up hb7)
        have HB7 := Lib.hid (below_all HB2.out hb7)
        have HR7 : Hid (RdV w7 w7.heap.size (some ⟨w'.heap.size, 0, none⟩) [.int .i64 (i : Int)]) := Lib.hid (by rw [← hw7]; exact row_rd w' [.int .i64 (i : Int)])
        have hgi : (((some i).getD 0 : Nat) : Int) = (i : Int) := rfl
        rw [hgi]
        clear hb2 hb7 HO HB HFD HXR HMR hgi
        go_wp2_with (first
          | (at_builtin; refine appP _ rfl (.tmp 26) (.tmp 28) 26 3 (.int .i64 0) 1 8 rfl Try.underlying26 intInfo rfl (by decide) (by decide) w1.heap.size k 1 1 u7 (iCells (nats ch)) [.int .i64 (i : Int)] (some ⟨w'.heap.size, 0, none⟩) rfl HO7.out rfl rfl HR7.out (fun e => by cases e) (fun u hu => by simp only [List.mem_cons, List.not_mem_nil, or_false] at hu; rcases hu with rfl; rfl) (by omega) HB7.out.size ?_; intro v8 w8 ho hg; have HO8 : Hid (OwnK w8 w1.heap.size 3 1 v8 (k + 1) (iCells (nats (ch ++ [i])))) := Lib.hid (by rw [← nats_snoc1]; exact ho); have HB8 := Lib.hid (below_grown HB7.out hg (fun e he => HO7.out.own e he)); clear ho hg)
          | fail)
        go_roundg (n - (k + 1))
        case rel => exact ⟨k + 1, ch ++ [i], by omega, rfl, by rw [HSQ.out], by rw [List.length_append, HLEN.out]; rfl, by rw [HSQ.out]; omega, HY.out, HO8.out, HB8.out⟩
        case measure => have := HG.out; omega
/-- The landed chain keeps its contract. -/
theorem cops : COps where
  of := fun s q l hl hr _ _ hn hb q0 q1 => cnof_at s q l hl hr hn hb q0 q1
end Go.Proofs.Ytckkgjggoopjiaa
