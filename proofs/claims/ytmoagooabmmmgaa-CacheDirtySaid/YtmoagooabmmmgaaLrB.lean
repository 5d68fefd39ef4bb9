/-
  A ranking in memory: Insert, Remove, demote, Touch, Victim.
-/
import Derived.Test.YtmoagooabmmmgaaLrA
namespace Go.Proofs.Ytmoagooabmmmgaa
open Go.RowKit

/-- Block kb is the ranking S. -/
def RkC (w : World) (kb : Nat) (cs : List Value) (S : RkS) : Prop := Blk w kb 85 cs ∧ cs[0]? = some (.int .i64 (S.n : Int)) ∧ RowM cs 1 S.T ∧ RowM cs 197 S.K
def RkM (w : World) (kb : Nat) (S : RkS) : Prop := (∃ cs, RkC w kb cs S) ∧ S.WF
theorem RkM.lt {w : World} {kb : Nat} {S : RkS} (h : RkM w kb S) : kb < w.heap.size := by
  obtain ⟨⟨cs, hB, _⟩, _⟩ := h
  exact lt_of_block hB
theorem RkM.keep {F : Nat → Prop} {w w' : World} {kb : Nat} {S : RkS} (h : RkM w kb S) (hk : Kept F w w') (hn : ¬ F kb) : RkM w' kb S := by
  obtain ⟨⟨cs, hB, h1⟩, h2⟩ := h
  exact ⟨⟨cs, hk.blk hB hn, h1⟩, h2⟩
theorem RkM.up {w w' : World} {kb : Nat} {S : RkS} (h : RkM w kb S) (hb : Below w.heap.size w w') : RkM w' kb S := h.keep (F := fun _ => False) (Kept.of_below hb) id
/-- Behind a call on the ranking's row on trial, or kept. -/
theorem RkC.trial {w w' : World} {kb : Nat} {cs : List Value} {S : RkS} {l : List Nat} (h : RkC w kb cs S) (ht : RowTo kb 1 cs l w w') : ∃ cs', RkC w' kb cs' { S with T := l } := by
  obtain ⟨hB, h0, hT, hK⟩ := h
  obtain ⟨cs', hB', hM, hO, _⟩ := ht
  exact ⟨cs', hB', (hO 0 (.inl (by omega))).trans h0, hM, hK.same (fun j h1 _ => hO j (.inr (by omega)))⟩
theorem RkC.kept {w w' : World} {kb : Nat} {cs : List Value} {S : RkS} {l : List Nat} (h : RkC w kb cs S) (ht : RowTo kb 197 cs l w w') : ∃ cs', RkC w' kb cs' { S with K := l } := by
  obtain ⟨hB, h0, hT, hK⟩ := h
  obtain ⟨cs', hB', hM, hO, _⟩ := ht
  exact ⟨cs', hB', (hO 0 (.inl (by omega))).trans h0, hT.same (fun j _ h1 => hO j (.inl (by omega))), hM⟩
theorem RowTo.kept {kb o : Nat} {cs : List Value} {l : List Nat} {w w' : World} (h : RowTo kb o cs l w w') : Kept (fun k => k = kb) w w' := by
  obtain ⟨_, _, _, _, h⟩ := h
  exact h

/-- What a call on a ranking does. -/
def RkTo (kb : Nat) (b : Bool) (S' : RkS) (w : World) (r : Ending) (w' : World) : Prop := r = .returned (.bool b) ∧ RkM w' kb S' ∧ Kept (fun k => k = kb) w w'
section
variable {w : World} {kb : Nat} {S : RkS}
set_option maxHeartbeats 1000000 in
theorem lvictim_at (h : RkM w kb S) : Calls Try.prog 23 #[.pointer (some ⟨kb, 0, none⟩)] w (fun r w' => r = .returned (.tuple #[.int .i64 (S.vicN : Int), .bool S.vic.isSome]) ∧ w = w') := by
  obtain ⟨⟨cs, hB, h0, hT, hK⟩, hwf⟩ := h
  have HT := Lib.hid (llast_at hB hT)
  have HK := Lib.hid (llast_at hB hK)
  cases e : S.T.getLast? with
  | some s =>
    have HV : Hid (S.vicN = s ∧ S.vic.isSome = true) := Lib.hid (by
      have : S.vic = some s := by unfold RkS.vic; rw [e]; rfl
      unfold RkS.vicN
      rw [this]
      exact ⟨rfl, rfl⟩)
    unfold LastIs at HT
    rw [e] at HT
    rw [HV.out.1, HV.out.2]
    clear hB h0 hT hK hwf e HK HV
    go_enter Try.func23, Try.ntmps23
    go_wp2_with fail
    refine HT.out.mono ?_
    rintro r w' ⟨rfl, rfl⟩
    go_wp2_with fail
    go_ret2
    exact ⟨rfl, rfl⟩
  | none =>
    have HV : Hid (S.vicN = S.K.getLast?.getD 0 ∧ S.vic.isSome = S.K.getLast?.isSome) := Lib.hid (by
      have : S.vic = S.K.getLast? := by unfold RkS.vic; rw [e]; rfl
      unfold RkS.vicN
      rw [this]
      exact ⟨rfl, rfl⟩)
    unfold LastIs at HT HK
    rw [e] at HT
    rw [HV.out.1, HV.out.2]
    generalize S.K.getLast?.getD 0 = v at *
    generalize S.K.getLast?.isSome = y at *
    clear hB h0 hT hK hwf e HV
    go_enter Try.func23, Try.ntmps23
    go_wp2_with fail
    refine HT.out.mono ?_
    rintro r w' ⟨rfl, rfl⟩
    go_wp2_with fail
    refine HK.out.mono ?_
    rintro r w' ⟨rfl, rfl⟩
    go_wp2_with fail
    go_ret2
    exact ⟨rfl, rfl⟩
set_option maxHeartbeats 1000000 in
theorem linsert_at (x : Int) (h : RkM w kb S) : Calls Try.prog 41 #[.pointer (some ⟨kb, 0, none⟩), .int .i64 x] w (RkTo kb (S.insB x) (S.insS x) w) := by
  have HH := Lib.hid h
  obtain ⟨⟨cs, hB, h0, hT, hK⟩, hwf⟩ := h
  have c0 := hB.at h0
  have hn64 := hwf.n64
  have HT := Lib.hid (lhas_at x hB hT)
  have HK := Lib.hid (lhas_at x hB hK)
  obtain ⟨n, hn⟩ : ∃ n, S.n = n := ⟨_, rfl⟩
  rw [hn] at c0 hn64
  have no : S.insB x = false → RkTo kb (S.insB x) (S.insS x) w (.returned (.bool false)) w := fun e => by
    refine ⟨by rw [e], ?_, Kept.refl _ _⟩
    unfold RkS.insS
    rw [e]
    exact HH.out
  by_cases h1 : x < 0
  · have HE := Lib.hid (no (by
      unfold RkS.insB
      have : ¬ 0 ≤ x := by omega
      simp [this]))
    have hd : decide (x < 0) = true := by simpa using h1
    clear hB h0 hT hK hwf hn no c0
    go_enter Try.func41, Try.ntmps41
    go_wp2_with fail
    go_ret
    exact HE.out
  · have hd : decide (x < 0) = false := by simpa using h1
    by_cases h2 : (n : Int) ≤ x
    · have HE := Lib.hid (no (by
        unfold RkS.insB
        have : ¬ x < S.n := by omega
        simp [this]))
      clear hB h0 hT hK hwf hn no
      go_enter Try.func41, Try.ntmps41
      go_wp2_with fail
      go_ret
      exact HE.out
    · cases e1 : hasL S.T x with
      | true =>
        have HE := Lib.hid (no (by
          unfold RkS.insB RkS.has
          simp [e1]))
        rw [e1] at HT
        clear hB h0 hT hK hwf hn no e1 HK
        go_enter Try.func41, Try.ntmps41
        go_wp2_with fail
        refine HT.out.mono ?_
        rintro r w' ⟨rfl, rfl⟩
        go_wp2_with fail
        go_ret
        exact HE.out
      | false =>
        cases e2 : hasL S.K x with
        | true =>
          have HE := Lib.hid (no (by
            unfold RkS.insB RkS.has
            simp [e2]))
          rw [e1] at HT
          rw [e2] at HK
          clear hB h0 hT hK hwf hn no e1 e2
          go_enter Try.func41, Try.ntmps41
          go_wp2_with fail
          refine HT.out.mono ?_
          rintro r w' ⟨rfl, rfl⟩
          go_wp2_with fail
          refine HK.out.mono ?_
          rintro r w' ⟨rfl, rfl⟩
          go_wp2_with fail
          go_ret
          exact HE.out
        | false =>
          have hx0 : 0 ≤ x := by omega
          have hy : S.insB x = true := by
            unfold RkS.insB RkS.has
            have : x < S.n := by omega
            simp [e1, e2, hx0, this]
          have HY := Lib.hid hy
          have HW := Lib.hid (RkS.insS_wf hwf x)
          obtain ⟨s, rfl⟩ := Int.eq_ofNat_of_zero_le hx0
          have hsT : s ∉ S.T := by simpa [hasL_nat] using e1
          have HL := Lib.hid (llead_at s hB hT (by omega) hsT)
          have HE : Hid (∀ w', RowTo kb 1 cs (s :: S.T) w w' → RkTo kb (S.insB (s : Int)) (S.insS (s : Int)) w (.returned (.bool true)) w') := Lib.hid (fun w' ht => by
            refine ⟨by rw [hy], ⟨?_, HW.out⟩, ht.kept⟩
            obtain ⟨cs', hc⟩ := RkC.trial (S := S) ⟨hB, h0, hT, hK⟩ ht
            unfold RkS.insS
            rw [if_pos hy]
            exact ⟨cs', hc⟩)
          rw [e1] at HT
          rw [e2] at HK
          clear hB h0 hT hK hwf hn no e1 e2 hy hsT
          go_enter Try.func41, Try.ntmps41
          go_wp2_with fail
          refine HT.out.mono ?_
          rintro r w' ⟨rfl, rfl⟩
          go_wp2_with fail
          refine HK.out.mono ?_
          rintro r w' ⟨rfl, rfl⟩
          go_wp2_with fail
          refine HL.out.mono ?_
          rintro r w' ⟨rfl, ht⟩
          have HR := Lib.hid ht
          clear ht
          go_wp2_with fail
          go_ret
          exact HE.out _ HR.out
theorem RkS.wf_disj {S : RkS} (h : S.WF) {s : Nat} (hT : s ∈ S.T) : s ∉ S.K := fun hK => (List.nodup_append.1 h.nd).2.2 s hT s hK rfl
set_option maxHeartbeats 1000000 in
theorem lremove_at (x : Int) (h : RkM w kb S) : Calls Try.prog 35 #[.pointer (some ⟨kb, 0, none⟩), .int .i64 x] w (RkTo kb (S.has x) (S.remS x) w) := by
  obtain ⟨⟨cs, hB, h0, hT, hK⟩, hwf⟩ := h
  have HW := Lib.hid (RkS.remS_wf hwf x)
  have HC : Hid (RkC w kb cs S) := Lib.hid ⟨hB, h0, hT, hK⟩
  have HT := Lib.hid (lleave_at x hB hT)
  cases e1 : hasL S.T x with
  | true =>
    have HE : Hid (∀ w', RowTo kb 1 cs (lvL S.T x) w w' → RkTo kb (S.has x) (S.remS x) w (.returned (.bool true)) w') := Lib.hid (fun w' ht => by
      have hh : S.has x = true := by unfold RkS.has; rw [e1]; rfl
      obtain ⟨cs', hc⟩ := HC.out.trial ht
      refine ⟨by rw [hh], ⟨⟨cs', ?_⟩, HW.out⟩, ht.kept⟩
      unfold RkS.remS
      rw [if_pos hh]
      obtain ⟨s, rfl, hs⟩ := hasL_some e1
      unfold lvL at hc
      rw [if_pos e1] at hc
      rw [show butL S.K ((s : Int).toNat) = S.K from but_not (by simpa using RkS.wf_disj hwf hs)]
      exact hc)
    rw [e1] at HT
    clear hB h0 hT hK hwf e1
    go_enter Try.func35, Try.ntmps35
    go_wp2_with fail
    refine HT.out.mono ?_
    rintro r w' ⟨rfl, ht⟩
    have HR := Lib.hid ht
    clear ht
    go_wp2_with fail
    go_ret
    exact HE.out _ HR.out
  | false =>
    have hl1 : lvL S.T x = S.T := by unfold lvL; rw [if_neg (by rw [e1]; simp)]
    have HK : Hid (∀ w', RowTo kb 1 cs (lvL S.T x) w w' → ∃ cs', Calls Try.prog 47 #[.pointer (some ⟨kb, 197, none⟩), .int .i64 x] w' (fun r w'' => r = .returned (.bool (hasL S.K x)) ∧ RowTo kb 197 cs' (lvL S.K x) w' w'') ∧ RkC w' kb cs' S) := Lib.hid (fun w' ht => by
      obtain ⟨cs', hc⟩ := HC.out.trial ht
      rw [hl1] at hc
      exact ⟨cs', lleave_at x hc.1 hc.2.2.2, hc⟩)
    have HE : Hid (∀ w1 w2 cs', RowTo kb 1 cs (lvL S.T x) w w1 → RkC w1 kb cs' S → RowTo kb 197 cs' (lvL S.K x) w1 w2 → RkTo kb (S.has x) (S.remS x) w (.returned (.bool (hasL S.K x))) w2) := Lib.hid (fun w1 w2 cs' ht hc hk => by
      have hh : S.has x = hasL S.K x := by unfold RkS.has; rw [e1]; rfl
      obtain ⟨cs2, hc2⟩ := hc.kept hk
      refine ⟨by rw [hh], ⟨⟨cs2, ?_⟩, HW.out⟩, ht.kept.and hk.kept⟩
      unfold RkS.remS
      unfold lvL at hc2
      rw [hh]
      cases e2 : hasL S.K x with
      | true =>
        rw [if_pos rfl]
        rw [if_pos e2] at hc2
        obtain ⟨s, rfl, hs⟩ := hasL_some e2
        rw [show butL S.T ((s : Int).toNat) = S.T from but_not (by
          intro e
          exact RkS.wf_disj hwf (by simpa using e) hs)]
        exact hc2
      | false =>
        rw [if_neg (by simp)]
        rw [if_neg (by rw [e2]; simp)] at hc2
        exact hc2)
    rw [e1] at HT
    generalize hasL S.K x = y at *
    clear hB h0 hT hK hwf e1 hl1
    go_enter Try.func35, Try.ntmps35
    go_wp2_with fail
    refine HT.out.mono ?_
    rintro r w1 ⟨rfl, ht⟩
    have HR := Lib.hid ht
    obtain ⟨cs', hcall, hc⟩ := HK.out _ ht
    have HCA := Lib.hid hcall
    have HC1 := Lib.hid hc
    clear ht hcall hc
    go_wp2_with fail
    refine HCA.out.mono ?_
    rintro r w2 ⟨rfl, hk⟩
    have HR2 := Lib.hid hk
    clear hk
    go_wp2_with fail
    go_ret
    exact HE.out _ _ _ HR.out HC1.out HR2.out
theorem RkC.drewN {cs : List Value} (h : RkC w kb cs S) (n : Nat) : RkC (w.drewN n) kb cs S := h
theorem Kept.drewN {F : Nat → Prop} {a b : World} (h : Kept F a b) (n : Nat) : Kept F a (b.drewN n) := ⟨h.os, h.tape, h.output, h.size, h.block⟩
/-- The last kept one is the first one on trial. -/
def DemTo (kb : Nat) (S' : RkS) (w w' : World) : Prop := (∃ cs', RkC w' kb cs' S') ∧ Kept (fun k => k = kb) w w'
set_option maxHeartbeats 1000000 in
theorem ldemote_at {cs : List Value} {s : Nat} (hC : RkC w kb cs S) (hwf : S.WF) (hs : S.K.getLast? = some s) : Calls Try.prog 44 #[.pointer (some ⟨kb, 0, none⟩)] w (fun r w' => r = .returned (.tuple #[]) ∧ DemTo kb { S with T := s :: S.T, K := S.K.dropLast } w w') := by
  have hl := llast_at hC.1 hC.2.2.2
  unfold LastIs at hl
  rw [hs] at hl
  have HL := Lib.hid hl
  have hsK : s ∈ S.K := List.mem_of_getLast? hs
  have hsT : s ∉ S.T := fun e => RkS.wf_disj hwf e hsK
  have hs64 : s < 64 := by
    have := hwf.lt s (by simp [hsK])
    have := hwf.n64
    omega
  have hK : lvL S.K (s : Int) = S.K.dropLast := by
    unfold lvL
    rw [if_pos (by rw [hasL_nat]; simpa using hsK)]
    obtain ⟨ys, e⟩ := List.getLast?_eq_some_iff.1 hs
    have := RkS.K_nd hwf
    rw [e] at this ⊢
    rw [Int.toNat_natCast, but_mid this]
    simp
  have HV := Lib.hid (lleave_at (s : Int) hC.1 hC.2.2.2)
  have hhas : hasL S.K (s : Int) = true := by rw [hasL_nat]; simpa using hsK
  rw [hhas, hK] at HV
  have HN : Hid (∀ w', RowTo kb 197 cs S.K.dropLast w w' → ∃ cs', RkC w' kb cs' { S with K := S.K.dropLast } ∧ Calls Try.prog 43 #[.pointer (some ⟨kb, 1, none⟩), .int .i64 (s : Int)] w' (fun r w'' => r = .returned (.tuple #[]) ∧ RowTo kb 1 cs' (s :: S.T) w' w'')) := Lib.hid (fun w' hk => by
    obtain ⟨cs', hc⟩ := hC.kept hk
    exact ⟨cs', hc, llead_at s hc.1 hc.2.2.1 hs64 hsT⟩)
  clear hC hwf hs hl hsK hsT hs64 hK hhas
  go_enter Try.func44, Try.ntmps44
  go_wp2_with fail
  refine HL.out.mono ?_
  rintro r w' ⟨rfl, rfl⟩
  go_wp2_with fail
  refine HV.out.mono ?_
  rintro r w1 ⟨rfl, hk⟩
  have HR := Lib.hid hk
  obtain ⟨cs', hc, hcall⟩ := HN.out _ hk
  have HC1 := Lib.hid hc
  have HCA := Lib.hid hcall
  clear hk hc hcall
  go_wp2_with fail
  refine HCA.out.mono ?_
  rintro r w2 ⟨rfl, hk⟩
  have HR2 := Lib.hid hk
  clear hk
  go_wp2_with fail
  go_end0
  exact ⟨rfl, HC1.out.trial HR2.out, HR.out.kept.and HR2.out.kept⟩
set_option maxHeartbeats 2000000 in
theorem ltouch_at (x : Int) (h : RkM w kb S) : Calls Try.prog 32 #[.pointer (some ⟨kb, 0, none⟩), .int .i64 x] w (RkTo kb (S.has x) (S.touS x) w) := by
  have HR := Lib.hid (lremove_at x h)
  cases hx : S.has x with
  | false =>
    have HE : Hid (∀ w', RkTo kb (S.has x) (S.remS x) w (.returned (.bool false)) w' → RkTo kb false (S.touS x) w (.returned (.bool false)) w') := Lib.hid (fun w' ⟨_, b, c⟩ => by
      unfold RkS.remS at b
      unfold RkS.touS
      rw [hx] at b ⊢
      exact ⟨rfl, b, c⟩)
    rw [hx] at HR HE
    clear h hx
    go_enter Try.func32, Try.ntmps32
    go_wp2_with fail
    refine HR.out.mono ?_
    rintro r w' ⟨rfl, ht⟩
    have HT := Lib.hid ht
    clear ht
    go_wp2_with fail
    go_ret
    exact HE.out _ ⟨rfl, HT.out⟩
  | true =>
    obtain ⟨s, rfl, hs⟩ := RkS.has_some hx
    have hwf := h.2
    have hs64 : s < 64 := by
      have := hwf.lt s hs
      have := hwf.n64
      omega
    have hrem : S.remS (s : Int) = { S with T := butL S.T s, K := butL S.K s } := by
      unfold RkS.remS
      rw [if_pos hx]
      simp
    have htou : S.touS (s : Int) = RkS.demo { S with T := butL S.T s, K := s :: butL S.K s } := by
      unfold RkS.touS
      rw [if_pos hx]
      simp
    have hmid := RkS.touch_mid hwf hs
    rw [hx, hrem] at HR
    rw [htou]
    have HL : Hid (∀ w' (cs : List Value), RkC w' kb cs { S with T := butL S.T s, K := butL S.K s } → Calls Try.prog 43 #[.pointer (some ⟨kb, 197, none⟩), .int .i64 (s : Int)] w' (fun r w'' => r = .returned (.tuple #[]) ∧ RowTo kb 197 cs (s :: butL S.K s) w' w'')) := Lib.hid (fun w' cs hc => llead_at s hc.1 hc.2.2.2 hs64 (fun e => (mem_but.1 e).2 rfl))
    have hlen := RkS.len_le hmid
    have hn64 := hwf.n64
    have hn1 := hwf.n1
    obtain ⟨M, hM⟩ : ∃ M : RkS, { S with T := butL S.T s, K := s :: butL S.K s } = M := ⟨_, rfl⟩
    have eKn : M.K.length = (s :: butL S.K s).length ∧ M.n = S.n := by rw [← hM]; exact ⟨rfl, rfl⟩
    rw [hM]
    have HM : Hid (∀ w' (cs : List Value), RkC w' kb cs { S with T := butL S.T s, K := s :: butL S.K s } → RkC w' kb cs M) := Lib.hid (fun w' cs hc => by rw [← hM]; exact hc)
    have HW : Hid M.WF := Lib.hid (by rw [← hM]; exact hmid)
    have hlen2 : M.K.length ≤ 64 := by
      have := RkS.len_le HW.out
      omega
    obtain ⟨m, hm⟩ : ∃ m, M.K.length = m := ⟨_, rfl⟩
    obtain ⟨n, hn⟩ : ∃ n, M.n = n := ⟨_, rfl⟩
    have HMC : Hid (∀ w' (cs : List Value), RkC w' kb cs M → w'.cell? ⟨kb, 392, none⟩ = some (.int .i64 (m : Int)) ∧ w'.cell? ⟨kb, 0, none⟩ = some (.int .i64 (n : Int))) := Lib.hid (fun w' cs hc => by
      obtain ⟨A, hA, _⟩ := hc.2.2.2
      have h1 := hc.1.at hA.2
      have h2 := hc.1.at hc.2.1
      rw [hm] at h1
      rw [hn] at h2
      exact ⟨h1, h2⟩)
    have hnn : n ≤ 64 ∧ 1 ≤ n := by omega
    have hmm : m ≤ 64 := by omega
    by_cases hd : n / 2 < m
    · obtain ⟨z, hz⟩ : ∃ z, M.K.getLast? = some z := by
        cases e : M.K.getLast? with
        | some z => exact ⟨z, rfl⟩
        | none =>
          rw [List.getLast?_eq_none_iff] at e
          rw [e] at hm
          simp at hm
          omega
      have HD : Hid (∀ w' (cs : List Value), RkC w' kb cs M → Calls Try.prog 44 #[.pointer (some ⟨kb, 0, none⟩)] w' (fun r w'' => r = .returned (.tuple #[]) ∧ DemTo kb { M with T := z :: M.T, K := M.K.dropLast } w' w'')) := Lib.hid (fun w' cs hc => ldemote_at hc HW.out hz)
      have HE : Hid (∀ w', DemTo kb { M with T := z :: M.T, K := M.K.dropLast } w w' → RkTo kb true M.demo w (.returned (.bool true)) w') := Lib.hid (fun w' ⟨hc, hk⟩ => by
        refine ⟨rfl, ⟨?_, RkS.demo_wf HW.out⟩, hk⟩
        unfold RkS.demo
        rw [if_pos (by omega), hz]
        exact hc)
      have hdd : ((n : Int) / 2 < (m : Int)) := by omega
      clear hx hwf hs hrem htou hmid hlen hn64 hn1 hM eKn hlen2 hm hn h hz
      go_enter Try.func32, Try.ntmps32
      go_wp2_with fail
      refine HR.out.mono ?_
      rintro r w1 ⟨rfl, hm1, hk1⟩
      obtain ⟨⟨cs1, hc1⟩, _⟩ := hm1
      have HC1 := Lib.hid hc1
      have HK1 := Lib.hid hk1
      clear hc1 hk1
      go_wp2_with fail
      refine (HL.out _ _ HC1.out).mono ?_
      rintro r w2 ⟨rfl, ht⟩
      obtain ⟨cs2, hc2⟩ := HC1.out.kept ht
      have HC2 := Lib.hid (HM.out _ _ hc2)
      have HK2 := Lib.hid (HK1.out.and ht.kept)
      clear hc2 ht HC1 HK1
      obtain ⟨g1, g2⟩ := HMC.out _ _ HC2.out
      go_wp2_with fail
      go_quiet (fail)
      all_goals
        go_wp2_with fail
        refine (HD.out _ _ (HC2.out.drewN _)).mono ?_
        rintro r w3 ⟨rfl, hd3⟩
        have HD3 := Lib.hid hd3
        clear hd3
        go_wp2_with fail
        go_ret
        exact HE.out _ ⟨HD3.out.1, (HK2.out.drewN _).and HD3.out.2⟩
    · have HE : Hid (∀ w' (cs : List Value), RkC w' kb cs M → Kept (fun k => k = kb) w w' → RkTo kb true M.demo w (.returned (.bool true)) w') := Lib.hid (fun w' cs hc hk => by
        refine ⟨rfl, ⟨?_, RkS.demo_wf HW.out⟩, hk⟩
        unfold RkS.demo
        rw [if_neg (by omega)]
        exact ⟨cs, hc⟩)
      have hdd : ¬ ((n : Int) / 2 < (m : Int)) := by omega
      clear hx hwf hs hrem htou hmid hlen hn64 hn1 hM eKn hlen2 hm hn h
      go_enter Try.func32, Try.ntmps32
      go_wp2_with fail
      refine HR.out.mono ?_
      rintro r w1 ⟨rfl, hm1, hk1⟩
      obtain ⟨⟨cs1, hc1⟩, _⟩ := hm1
      have HC1 := Lib.hid hc1
      have HK1 := Lib.hid hk1
      clear hc1 hk1
      go_wp2_with fail
      refine (HL.out _ _ HC1.out).mono ?_
      rintro r w2 ⟨rfl, ht⟩
      obtain ⟨cs2, hc2⟩ := HC1.out.kept ht
      have HC2 := Lib.hid (HM.out _ _ hc2)
      have HK2 := Lib.hid (HK1.out.and ht.kept)
      clear hc2 ht HC1 HK1
      obtain ⟨g1, g2⟩ := HMC.out _ _ HC2.out
      go_wp2_with fail
      go_quiet (fail)
      all_goals
        go_wp2_with fail
        go_ret
        exact HE.out _ _ (HC2.out.drewN _) (HK2.out.drewN _)
end
end Go.Proofs.Ytmoagooabmmmgaa
