/-
  A ranking in memory: Trial, Kept; lists compared; the law's do, awake.
-/
import Derived.Test.YtpocpeiiacgoaaaLrC
import Derived.Test.YtpocpeiiacgoaaaLrN
namespace Go.Proofs.Ytpocpeiiacgoaaa
open Go.RowKit

section
variable {w : World} {kb : Nat} {S : RkS}
theorem ltrial_at (h : RkM w kb S) : Calls Try.prog 9 #[.pointer (some ⟨kb, 0, none⟩)] w (ListIs S.T w) := by
  obtain ⟨⟨cs, hB, h0, hT, hK⟩, hwf⟩ := h
  have HT := Lib.hid (llist_at hB hT)
  clear hB h0 hT hK hwf
  go_enter Try.func9, Try.ntmps9
  go_wp2_with fail
  refine HT.out.mono ?_
  rintro r w' ⟨A, c, rfl, hF, hb⟩
  have HF := Lib.hid hF
  have HB := Lib.hid hb
  clear hF hb
  go_wp2_with fail
  go_ret
  exact ⟨A, c, rfl, HF.out, HB.out⟩
theorem lkept_at (h : RkM w kb S) : Calls Try.prog 10 #[.pointer (some ⟨kb, 0, none⟩)] w (ListIs S.K w) := by
  obtain ⟨⟨cs, hB, h0, hT, hK⟩, hwf⟩ := h
  have HT := Lib.hid (llist_at hB hK)
  clear hB h0 hT hK hwf
  go_enter Try.func10, Try.ntmps10
  go_wp2_with fail
  refine HT.out.mono ?_
  rintro r w' ⟨A, c, rfl, hF, hb⟩
  have HF := Lib.hid hF
  have HB := Lib.hid hb
  clear hF hb
  go_wp2_with fail
  go_ret
  exact ⟨A, c, rfl, HF.out, HB.out⟩
end

/-- Are numbers the same? -/
theorem rsame_len {A A2 : Option Addr} {n m c c2 : Nat} {w : World} (h : n ≠ m) : Calls Try.prog 15 #[.slice A n c, .slice A2 m c2] w (BoolB false w) := by
  have q : ((n : Int) == (m : Int)) = false := by simp; omega
  go_enter Try.func15, Try.ntmps15
  go_wp2_with fail
  go_ret
  exact ⟨rfl, Below.refl _ _⟩
theorem same_step {xs ys : List Int} {k : Nat} (h1 : k < xs.length) (h2 : k < ys.length) (h : xs.take k = ys.take k) (he : xs[k] = ys[k]) : xs.take (k + 1) = ys.take (k + 1) := by
  rw [List.take_succ_eq_append_getElem h1, List.take_succ_eq_append_getElem h2, h, he]
theorem same_no {xs ys : List Int} {k : Nat} (h1 : k < xs.length) (h2 : k < ys.length) (he : xs[k] ≠ ys[k]) : decide (xs = ys) = false := by
  simp only [decide_eq_false_iff_not]
  rintro rfl
  exact he rfl
theorem rdv_i {w : World} {B b o : Nat} {xs : List Int} (h : ∀ i (h : i < (iCells xs).length), w.cell? ⟨b, o + i, none⟩ = some (iCells xs)[i]) (k : Nat) (hk : k < xs.length) : w.cell? ⟨b, o + k, none⟩ = some (.int .i64 xs[k]) := by
  rw [h k (by rw [iCells_len]; exact hk)]
  simp [iCells]
set_option maxHeartbeats 1000000 in
theorem rsame_eq {A A2 : Option Addr} {xs ys : List Int} {c c2 : Nat} {w : World} (hr : RdV w w.heap.size A (iCells xs)) (hr2 : RdV w w.heap.size A2 (iCells ys)) (hl : ys.length = xs.length) (hn : xs.length ≤ 20000) : Calls Try.prog 15 #[.slice A xs.length c, .slice A2 xs.length c2] w (BoolB (decide (xs = ys)) w) := by
  have HR := Lib.hid hr
  have HR2 := Lib.hid hr2
  have HL := Lib.hid hl
  clear hr hr2 hl
  go_enter Try.func15, Try.ntmps15
  go_wp2_with fail
  go_loopg [5] xs.length (fun n i wr => ∃ k : Nat, k ≤ xs.length ∧ n = xs.length - k ∧ i = .int .i64 k ∧ xs.take k = ys.take k ∧ Below w.heap.size w wr)
  case atStart => exact ⟨0, by omega, by omega, rfl, rfl, Below.refl _ _⟩
  case round =>
    obtain ⟨k, hk, hm, rfl, ht, hb⟩ := hrel
    have HB := Lib.hid hb
    have HM := Lib.hid hm
    have HT := Lib.hid ht
    clear hb hm ht
    by_cases hlt : k < xs.length
    · have hlt2 : k < ys.length := by rw [HL.out]; exact hlt
      obtain ⟨b, o, rfl, hbl, hcell⟩ := (HR.out.below HB.out) (by rw [iCells_len]; omega)
      obtain ⟨b2, o2, rfl, hbl2, hcell2⟩ := (HR2.out.below HB.out) (by rw [iCells_len]; omega)
      have c0 := rdv_i (B := 0) hcell k hlt
      have c1 := rdv_i (B := 0) hcell2 k hlt2
      clear hcell hcell2
      by_cases he : xs[k] = ys[k]
      · have HS := Lib.hid (same_step hlt hlt2 HT.out he)
        rw [← he] at c1
        have q : (xs[k] == xs[k]) = true := by simp
        go_wp2_with fail
        go_region
        go_wp2_with fail
        go_roundg (xs.length - (k + 1))
        case rel => exact ⟨k + 1, by omega, rfl, by go_num, HS.out, HB.out.drew⟩
        case measure => have := HM.out; omega
      · have HS := Lib.hid (same_no hlt hlt2 he)
        have q : (xs[k] == ys[k]) = false := by simp [he]
        go_wp2_with fail
        go_region
        go_wp2_with fail
        go_ret
        exact ⟨by rw [HS.out]; rfl, HB.out.drew⟩
    · obtain rfl : k = xs.length := by omega
      have HS : Hid (decide (xs = ys) = true) := Lib.hid (by
        have := HT.out
        rw [List.take_length, ← HL.out, List.take_length] at this
        simpa using this)
      go_wp2_with fail
      go_ret
      exact ⟨by rw [HS.out]; rfl, HB.out⟩
theorem rsame_is {A A2 : Option Addr} {xs ys : List Int} {n m c c2 : Nat} {w : World} (hr : RdV w w.heap.size A (iCells xs)) (hr2 : RdV w w.heap.size A2 (iCells ys)) (hl : xs.length = n) (hl2 : ys.length = m) (hn : n ≤ 20000) : Calls Try.prog 15 #[.slice A n c, .slice A2 m c2] w (BoolB (decide (xs = ys)) w) := by
  subst hl hl2
  by_cases h : xs.length = ys.length
  · have := rsame_eq (c := c) (c2 := c2) hr hr2 h.symm hn
    rwa [h] at this ⊢
  · have e : decide (xs = ys) = false := by
      simp only [decide_eq_false_iff_not]
      rintro rfl
      exact h rfl
    rw [e]
    exact rsame_len h
/-- What a list holds. -/
theorem RowF.rdI {F : Nat → Prop} {w : World} {A : Option Addr} {n c : Nat} {xs : List Int} (h : RowF F w (.slice A n c) (iCells xs)) : RdV w w.heap.size A (iCells xs) ∧ xs.length = n ∧ n ≤ c := by
  obtain ⟨A', c', e, hc, hr, _⟩ := h
  injection e with e1 e2 e3
  subst e1 e2 e3
  exact ⟨hr, (iCells_len _).symm, hc⟩

section
variable {w : World} {kb : Nat} {S : RkS}
/-- An act as a value. -/
abbrev actV (d x : Int) : Value := .agg #[.int .i64 d, .int .i64 x]
theorem RkTo.on {w0 : World} {b : Bool} {S' : RkS} {r : Ending} {w' : World} (h : RkTo kb b S' w r w') (hk : Kept (fun k => k = kb) w0 w) : RkTo kb b S' w0 r w' := ⟨h.1, h.2.1, hk.and h.2.2⟩
set_option maxHeartbeats 2000000 in
theorem ldo_at (d x : Int) (h : RkM w kb S) : Calls Try.prog 8 #[.pointer (some ⟨kb, 0, none⟩), actV d x] w (RkTo kb (S.doB d x) (S.doS d x) w) := by
  have hb : Below w.heap.size w (w.alloc (.cells #[.int .i64 d, .int .i64 x] 30)) := (Below.refl _ _).alloc (Nat.le_refl _) _
  have HM := Lib.hid (h.up hb)
  have HK : Hid (Kept (fun k => k = kb) w (w.alloc (.cells #[.int .i64 d, .int .i64 x] 30))) := Lib.hid (Kept.of_below hb)
  clear h hb
  by_cases h0 : d = 0
  · subst h0
    have HE : Hid (S.doB 0 x = S.insB x ∧ S.doS 0 x = S.insS x) := Lib.hid ⟨rfl, rfl⟩
    rw [HE.out.1, HE.out.2]
    go_enter Try.func8, Try.ntmps8
    go_wp2_with fail
    refine (linsert_at x HM.out).mono ?_
    rintro r w' h
    obtain ⟨rfl, hm, hk⟩ := h
    have HR := Lib.hid (And.intro hm hk)
    clear hm hk
    go_wp2_with fail
    go_ret
    exact ⟨rfl, HR.out.1, HK.out.and HR.out.2⟩
  · have q0 : (d == 0) = false := by simpa using h0
    by_cases h1 : d = 1
    · subst h1
      have HE : Hid (S.doB 1 x = S.has x ∧ S.doS 1 x = S.touS x) := Lib.hid ⟨rfl, rfl⟩
      rw [HE.out.1, HE.out.2]
      go_enter Try.func8, Try.ntmps8
      go_wp2_with fail
      refine (ltouch_at x HM.out).mono ?_
      rintro r w' h
      obtain ⟨rfl, hm, hk⟩ := h
      have HR := Lib.hid (And.intro hm hk)
      clear hm hk
      go_wp2_with fail
      go_ret
      exact ⟨rfl, HR.out.1, HK.out.and HR.out.2⟩
    · have q1 : (d == 1) = false := by simpa using h1
      by_cases h2 : d = 2
      · subst h2
        have HE : Hid (S.doB 2 x = S.has x ∧ S.doS 2 x = S.remS x) := Lib.hid ⟨rfl, rfl⟩
        rw [HE.out.1, HE.out.2]
        go_enter Try.func8, Try.ntmps8
        go_wp2_with fail
        refine (lremove_at x HM.out).mono ?_
        rintro r w' h
        obtain ⟨rfl, hm, hk⟩ := h
        have HR := Lib.hid (And.intro hm hk)
        clear hm hk
        go_wp2_with fail
        go_ret
        exact ⟨rfl, HR.out.1, HK.out.and HR.out.2⟩
      · have q2 : (d == 2) = false := by simpa using h2
        by_cases h3 : d = 3
        · subst h3
          have HE : Hid (S.doB 3 x = S.vic.isSome ∧ S.doS 3 x = if S.vic.isSome = true then S.remS (S.vicN : Int) else S) := Lib.hid ⟨rfl, rfl⟩
          rw [HE.out.1, HE.out.2]
          cases hv : S.vic.isSome with
          | true =>
            have HV := Lib.hid (RkS.vic_has hv)
            go_enter Try.func8, Try.ntmps8
            go_wp2_with fail
            refine (lvictim_at HM.out).mono ?_
            rintro r w' ⟨rfl, rfl⟩
            rw [hv]
            generalize S.vicN = v at *
            go_wp2_with fail
            refine (lremove_at (v : Int) HM.out).mono ?_
            rintro r w' h
            obtain ⟨rfl, hm, hk⟩ := h
            have HR := Lib.hid (And.intro hm hk)
            clear hm hk
            rw [HV.out]
            go_wp2_with fail
            go_ret
            exact ⟨rfl, HR.out.1, HK.out.and HR.out.2⟩
          | false =>
            go_enter Try.func8, Try.ntmps8
            go_wp2_with fail
            refine (lvictim_at HM.out).mono ?_
            rintro r w' ⟨rfl, rfl⟩
            rw [hv]
            generalize S.vicN = v at *
            go_wp2_with fail
            go_ret
            exact ⟨rfl, HM.out, HK.out⟩
        · have q3 : (d == 3) = false := by simpa using h3
          have HE : Hid (S.doB d x = false ∧ S.doS d x = S) := Lib.hid (by
            unfold RkS.doB RkS.doS
            rw [if_neg h0, if_neg h1, if_neg h2, if_neg h3, if_neg h0, if_neg h1, if_neg h2, if_neg h3]
            exact ⟨rfl, rfl⟩)
          rw [HE.out.1, HE.out.2]
          go_enter Try.func8, Try.ntmps8
          go_wp2_with fail
          go_ret
          exact ⟨rfl, HM.out, HK.out⟩
end
end Go.Proofs.Ytpocpeiiacgoaaa
