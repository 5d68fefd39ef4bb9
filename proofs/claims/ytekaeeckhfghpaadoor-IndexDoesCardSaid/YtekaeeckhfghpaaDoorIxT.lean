/-
  The document's index in memory: Drop, Put.
-/
import Derived.Test.YtekaeeckhfghpaaDoorIxR
import Derived.Test.YtekaeeckhfghpaaDoorHand
import Derived.Test.YtekaeeckhfghpaaDoorPhase
import Derived.Deep.DeepCutAuto
namespace Go.Proofs.YtekaeeckhfghpaaDoor
open Go.RowKit

section
variable {w : World} {rb : Nat} {S : IxS}
/-- A new row of pairs. -/
theorem RxC.newL {w2 : World} {B m : Nat} {v v' : Value} {L : PL} (h : RxC w rb v S) (hb : Below w.heap.size w w2) (hn : OwnK w2 B 57 2 v' m (prsC L)) (hB : w.heap.size ≤ B) (hm : L.length = m) :
    RxC (w2.setCell ⟨rb, 0, none⟩ v') rb v' ⟨L, S.room⟩ ∧ Kept (fun k => k = rb) w (w2.setCell ⟨rb, 0, none⟩ v') := by
  have hlt := lt_of_block h.b
  have h2 := h.up hb
  have hk := kept_put w2 rb 0 v'
  subst hm
  exact ⟨⟨h2.b.put 0 _, (hn.le (by omega)).keep hk (fun g hg e => by omega)⟩, (Kept.of_below hb).and hk⟩
theorem drop_snoc (L : PL) (k i : Nat) (h : i < L.length) : dropL (L.take (i + 1)) k = if L[i].1 = k then dropL (L.take i) k else dropL (L.take i) k ++ [L[i]] := by
  rw [List.take_succ_eq_append_getElem h]
  unfold dropL
  rw [List.filter_append]
  by_cases e : L[i].1 = k
  · rw [if_pos e, List.filter_cons_of_neg (by simp [e])]
    simp
  · rw [if_neg e, List.filter_cons_of_pos (by simp [e])]
    rfl
theorem has_len (hw : S.WF) (k : Nat) : S.has k = decide ((dropL S.L k).length < S.L.length) := by
  cases h : S.has k with
  | true =>
    have := dropL_len hw.asc (IxS.has_mem h)
    simp
    omega
  | false =>
    rw [dropL_not (IxS.has_no h)]
    simp
set_option maxHeartbeats 2000000 in
theorem ydrop_at (k : Nat) (h : RxM w rb S) : Calls Tryd.prog 11 #[.pointer (some ⟨rb, 0, none⟩), .int .u32 (k : Int)] w (RxTo rb (S.has k) (S.dropS k) w) := by
  obtain ⟨⟨v, hc⟩, hw⟩ := h
  have HW := Lib.hid (IxS.dropS_wf hw k)
  have HH := Lib.hid (has_len hw k)
  obtain ⟨A, c, rfl, hnc, _, _⟩ := hc.r.form
  have HC := Lib.hid hc
  have hl := (IxS.lens hw).1
  obtain ⟨n, hn⟩ : ∃ n, S.L.length = n := ⟨_, rfl⟩
  have HN := Lib.hid hn
  rw [hn] at hl HC HH
  have hlt0 := lt_of_block hc.b
  have HO0 : Hid (OwnK (w.alloc (.cells #[] 57)) w.heap.size 57 2 (.slice (some ⟨w.heap.size, 0, none⟩) 0 0) 0 []) := Lib.hid (OwnK.new w _ _ 2 0 [] (Nat.le_refl _) rfl (by omega))
  have HB0 : Hid (Below w.heap.size w (w.alloc (.cells #[] 57))) := Lib.hid ((Below.refl _ _).alloc (Nat.le_refl _) _)
  clear hc hw hnc hn
  go_enter Tryd.func11, Tryd.ntmps11
  go_wp2_with fail
  go_loopg [5, 6] n (fun q x y wr => ∃ (i m : Nat), i ≤ n ∧ q = n - i ∧ y = .int .i64 (i : Int) ∧ (dropL (S.L.take i) k).length = m ∧ m ≤ i ∧ OwnK wr w.heap.size 57 2 x m (prsC (dropL (S.L.take i) k)) ∧ Below w.heap.size w wr)
  case atStart => exact ⟨0, 0, by omega, rfl, rfl, by simp [dropL], by omega, by simpa [dropL, prsC] using HO0.out, HB0.out⟩
  case round =>
    clear HO0 HB0
    obtain ⟨i, m, hi, hq, rfl, hm, hmi, ho, hb⟩ := hrel
    have HQ := Lib.hid hq
    have HM := Lib.hid hm
    have HO := Lib.hid ho
    have HB := Lib.hid hb
    clear hq hm ho hb
    have g0 := (HB.out.cell (p := ⟨rb, 0, none⟩) hlt0).trans HC.out.cells.1
    by_cases hlt : i < n
    · have hll : i < S.L.length := by rw [HN.out]; exact hlt
      have HRD := HC.out.r
      rw [← HN.out] at HRD
      obtain ⟨b, o, rfl, hbl, hcell⟩ := HRD.rd (by rw [prsC_len, HN.out]; omega)
      obtain ⟨p0, p1⟩ := pair_at hcell i hll
      have c0 := (HB.out.cell (p := ⟨b, o + i * 2, none⟩) hbl).trans p0
      have c1 := (HB.out.cell (p := ⟨b, o + i * 2 + 1, none⟩) hbl).trans p1
      have HT := Lib.hid (drop_snoc S.L k i hll)
      obtain ⟨x, hx⟩ : ∃ x, S.L[i].1 = x := ⟨_, rfl⟩
      obtain ⟨s, hs⟩ : ∃ s, S.L[i].2 = s := ⟨_, rfl⟩
      have hxs : S.L[i] = (x, s) := by rw [← hx, ← hs]
      rw [hxs] at c0 c1 HT
      clear hcell HRD p0 p1 hx hs hxs
      by_cases he : x = k
      · have HT2 : Hid (dropL (S.L.take (i + 1)) k = dropL (S.L.take i) k) := Lib.hid (by rw [HT.out]; exact if_pos he)
        have q : ((x : Int) != (k : Int)) = false := by simp [he]
        clear he HT
        go_wp2_with fail
        go_roundg (n - (i + 1))
        case rel => exact ⟨i + 1, m, by omega, rfl, by go_num, by rw [HT2.out]; exact HM.out, by omega, by rw [HT2.out]; exact HO.out, HB.out⟩
        case measure => have := HQ.out; omega
      · have HT2 : Hid (dropL (S.L.take (i + 1)) k = dropL (S.L.take i) k ++ [(x, s)]) := Lib.hid (by rw [HT.out]; exact if_neg he)
        have q : ((x : Int) != (k : Int)) = true := by simp; omega
        obtain ⟨lst, hlst⟩ : ∃ lst, dropL (S.L.take i) k = lst := ⟨_, rfl⟩
        rw [hlst] at HT2 HM HO
        obtain ⟨w7, hw7⟩ : ∃ w7, wr.alloc (.cells #[.int .u32 (x : Int), .int .i64 s] 57) = w7 := ⟨_, rfl⟩
        have hb7 : Below wr.heap.size wr w7 := by rw [← hw7]; exact (Below.refl _ _).alloc (Nat.le_refl _) _
        have HO7 := Lib.hid (HO.out.up hb7)
        have HB7 := Lib.hid (below_all HB.out hb7)
        have HR7 : Hid (RdV w7 w7.heap.size (some ⟨wr.heap.size, 0, none⟩) [.int .u32 (x : Int), .int .i64 s]) := Lib.hid (fun _ => ⟨wr.heap.size, 0, rfl, by rw [← hw7]; simp, fun i hi => by rw [Nat.zero_add, ← hw7]; exact Blk.cell (T := 57) (heap_alloc_new wr _) i hi⟩)
        clear he HT hlst hb7 HO HB
        go_wp2_with (first
          | (at_builtin; refine appP _ rfl (.tmp 28) (.tmp 36) 42 57 (.agg #[.int .u32 0, .int .i64 0]) 2 16 rfl Tryd.underlying42 prInfo rfl (by decide) (by decide) w.heap.size m 1 1 u5 (prsC lst) [.int .u32 (x : Int), .int .i64 s] (some ⟨wr.heap.size, 0, none⟩) rfl HO7.out rfl rfl HR7.out (fun e => by cases e) (fun u hu => by simp only [List.mem_cons, List.not_mem_nil, or_false] at hu; rcases hu with rfl | rfl <;> rfl) (by omega) HB7.out.size ?_; intro v8 w8 ho hg; have HO8 : Hid (OwnK w8 w.heap.size 57 2 v8 (m + 1) (prsC (dropL (S.L.take (i + 1)) k))) := Lib.hid (by rw [HT2.out, prsC_app]; exact ho); have HB8 := Lib.hid (below_grown HB7.out hg (fun e he => HO7.out.own e he)); clear ho hg)
          | fail)
        go_roundg (n - (i + 1))
        case rel => exact ⟨i + 1, m + 1, by omega, rfl, by go_num, by rw [HT2.out, List.length_append, HM.out]; rfl, by omega, HO8.out, HB8.out⟩
        case measure => have := HQ.out; omega
    · obtain rfl : i = n := by omega
      have hto : S.L.take i = S.L := List.take_of_length_le (by rw [HN.out]; exact Nat.le_refl _)
      rw [hto] at HM HO
      obtain ⟨A2, c2, hv2, _⟩ := HO.out.form
      have HF := Lib.hid HO.out
      have hnew := (HC.out).newL (S := S) (L := dropL S.L k) (v' := u5) HB.out HF.out (Nat.le_refl _) HM.out
      have f0 := (HC.out.up HB.out).b.free 0
      rw [HM.out] at HH
      have HE : Hid (RxTo rb (S.has k) (S.dropS k) w (.returned (.bool (decide (m < i)))) (wr.setCell ⟨rb, 0, none⟩ u5)) := Lib.hid ⟨by rw [HH.out], ⟨⟨u5, hnew.1⟩, HW.out⟩, hnew.2⟩
      subst hv2
      clear hnew HF HO HM HH hto
      go_wp2_with fail
      go_ret
      exact HE.out
theorem ins_split {k : Nat} {s : Int} : ∀ {L : PL} {i : Nat}, i ≤ L.length → (∀ j (hj : j < i) (hl : j < L.length), L[j].1 < k) → (∀ h : i < L.length, ¬ L[i].1 < k) → insL L k s = L.take i ++ (k, s) :: L.drop i
  | [], 0, _, _, _ => rfl
  | x :: L, 0, _, _, h => by
    have h0 : ¬ x.1 < k := h (by simp)
    unfold insL
    rw [if_neg h0]
    rfl
  | x :: L, i + 1, hi, h1, h2 => by
    have h0 : x.1 < k := h1 0 (by omega) (by simp)
    unfold insL
    rw [if_pos h0, ins_split (L := L) (i := i) (by simpa using hi) (fun j hj hl => h1 (j + 1) (by omega) (by simpa using hl)) (fun h => h2 (by simpa using h))]
    rfl
theorem slice2_some (g n c k : Nat) (h : k ≤ n) (hc : n ≤ c) (hm : c ≤ maxLen) : ∃ AX : Option Addr, (∀ W : World, (Instr.sliceAt 42 (.slice (some ⟨g, 0, none⟩) n c) (some (.int .i64 (k : Int))) none none).run Tryd.prog W = .ok (.slice AX (n - k) (c - k)) W) ∧
    (∀ W : World, (Instr.slice 42 (.slice (some ⟨g, 0, none⟩) n c) (some (.int .i64 (k : Int))) none none).run Tryd.prog W = .ok (.slice AX (n - k) (c - k)) W) ∧ (k < n → AX = some ⟨g, k * 2, none⟩) ∧ (AX = none → c - k = 0) := by
  have he : Tryd.prog.underlying 42 = some (.slice (Tryd.prog.elem 42)) := by kernel_rfl
  have hz : ∀ W : World, (sizeOf (Tryd.prog.elem 42)).run Tryd.prog W = .ok 2 W := fun W => by kernel_rfl
  have h2 : ∀ W : World, (Instr.slice 42 (.slice (some ⟨g, 0, none⟩) n c) (some (.int .i64 (k : Int))) none none).run Tryd.prog W = .ok (.slice (if c = k then some ⟨g, 0, none⟩ else some ⟨g, 0 + k * 2, none⟩) (n - k) (c - k)) W := fun W => by
    rw [run_slice_l (P := Tryd.prog) (w := W) (t := 42) (a := some ⟨g, 0, none⟩) (len := n) (cap := c) (ht := he) (kl := .i64) (l := k) (by omega) (by omega), hz]
    simp [Result.andThen, sliced, Addr.add]
    by_cases e : c = k
    · rw [if_pos e, if_pos e]
    · rw [if_neg e, if_neg e]
      by_cases h0 : k = 0
      · subst h0
        simp
      · rw [if_neg (by omega)]
  refine ⟨_, fun W => by rw [run_sliceAt_slice (h := he)]; exact h2 W, h2, fun hlt => ?_, fun e => ?_⟩
  · rw [if_neg (by omega), Nat.zero_add]
  · split at e <;> cases e
theorem slice2_none : (∀ W : World, (Instr.sliceAt 42 (.slice none 0 0) (some (.int .i64 ((0 : Nat) : Int))) none none).run Tryd.prog W = .ok (.slice none 0 0) W) ∧
    (∀ W : World, (Instr.slice 42 (.slice none 0 0) (some (.int .i64 ((0 : Nat) : Int))) none none).run Tryd.prog W = .ok (.slice none 0 0) W) := by
  have he : Tryd.prog.underlying 42 = some (.slice (Tryd.prog.elem 42)) := by kernel_rfl
  have hz : ∀ W : World, (sizeOf (Tryd.prog.elem 42)).run Tryd.prog W = .ok 2 W := fun W => by kernel_rfl
  have h2 : ∀ W : World, (Instr.slice 42 (.slice none 0 0) (some (.int .i64 ((0 : Nat) : Int))) none none).run Tryd.prog W = .ok (.slice none 0 0) W := fun W => by
    have h3 := run_slice_l (P := Tryd.prog) (w := W) (t := 42) (a := none) (len := 0) (cap := 0) (ht := he) (kl := .i64) (l := 0) (by omega) (by omega)
    refine h3.trans ?_
    rw [hz]
    simp [Result.andThen, sliced]
  exact ⟨fun W => by rw [run_sliceAt_slice (h := he)]; exact h2 W, h2⟩
/-- What lies behind, of a row of pairs. -/
theorem OwnK.tail {w : World} {base n c k : Nat} {A : Option Addr} {L : PL} (h : OwnK w base 57 2 (.slice A n c) n (prsC L)) (hk : k ≤ n) (hl : L.length = n) : ∃ (AX : Option Addr) (cX : Nat), (∀ W : World, (Instr.sliceAt 42 (.slice A n c) (some (.int .i64 (k : Int))) none none).run Tryd.prog W = .ok (.slice AX (n - k) cX) W) ∧
    (∀ W : World, (Instr.slice 42 (.slice A n c) (some (.int .i64 (k : Int))) none none).run Tryd.prog W = .ok (.slice AX (n - k) cX) W) ∧ (AX = none → cX = 0) ∧ ∀ u, Below w.heap.size w u → RdV u u.heap.size AX (prsC (L.drop k)) := by
  have hrd := h.rd
  obtain ⟨A', c', e, hnc, hm, hA⟩ := h.form
  injection e with e1 _ e2
  subst e1 e2
  cases A with
  | none =>
    have hc0 := hA rfl
    obtain rfl : n = 0 := by omega
    obtain rfl : k = 0 := by omega
    subst hc0
    obtain rfl : L = [] := List.eq_nil_of_length_eq_zero hl
    exact ⟨none, 0, slice2_none.1, slice2_none.2, fun _ => rfl, fun u _ => RdV.nil⟩
  | some a =>
    have hga : ∃ g, a = ⟨g, 0, none⟩ := by
      rcases h.2 with ⟨h', _⟩ | ⟨g, cap, cur, hv, _⟩
      · simp at h'
      · injection hv with h1
        exact ⟨g, Option.some.inj h1⟩
    obtain ⟨g, rfl⟩ := hga
    obtain ⟨AX, h1, h2, h3, h4⟩ := slice2_some g n c k hk hnc hm
    refine ⟨AX, c - k, h1, h2, h4, fun u hu hp => ?_⟩
    have hkn : k < n := by
      rw [prsC_len, List.length_drop, hl] at hp
      omega
    rw [h3 hkn]
    obtain ⟨b, o, e, hb, hc⟩ := hrd (by rw [prsC_len]; omega)
    obtain e := Option.some.inj e
    injection e with e3 e4
    subst e3 e4
    refine ⟨g, k * 2, rfl, Nat.lt_of_lt_of_le hb hu.size, fun i hi => ?_⟩
    have hd : prsC L = prsC (L.take k) ++ prsC (L.drop k) := by rw [← prsC_app, List.take_append_drop]
    have hkl : (prsC (L.take k)).length = k * 2 := by rw [prsC_len, List.length_take, hl, Nat.min_eq_left hk]
    have hil : k * 2 + i < (prsC L).length := by rw [hd, List.length_append, hkl]; omega
    have := hc (k * 2 + i) hil
    rw [Nat.zero_add] at this
    rw [(hu.cell (p := ⟨g, k * 2 + i, none⟩) hb).trans this]
    congr 1
    have e5 : (prsC L)[k * 2 + i]? = (prsC (L.drop k))[i]? := by
      rw [hd, List.getElem?_append_right (by rw [hkl]; omega), hkl]
      congr 1
      omega
    rw [List.getElem?_eq_getElem hil, List.getElem?_eq_getElem hi] at e5
    exact Option.some.inj e5
set_option maxHeartbeats 4000000 in
set_option maxRecDepth 100000 in
theorem yput_at (k : Nat) (s : Int) (h : RxM w rb S) : Calls Tryd.prog 9 #[.pointer (some ⟨rb, 0, none⟩), .int .u32 (k : Int), .int .i64 s] w (RxTo rb (S.putB k) (S.putS k s) w) := by
  have HG := Lib.hid (yget_at k h)
  have HD := Lib.hid (ydrop_at k h)
  have HW := Lib.hid h.2
  have HWP := Lib.hid (IxS.putS_wf h.2 k s)
  have HM := Lib.hid h
  obtain ⟨hh, hhe⟩ : ∃ hh, S.has k = hh := ⟨_, rfl⟩
  obtain ⟨gg, hge⟩ : ∃ gg, S.getN k = gg := ⟨_, rfl⟩
  rw [hhe, hge] at HG
  rw [hhe] at HD
  have HHE := Lib.hid hhe
  -- the part behind the tests
  have HE : Hid (S.putB k = true → ∀ w' v', RxC w' rb v' ⟨insL (dropL S.L k) k s, S.room⟩ → Kept (fun k => k = rb) w w' → RxTo rb (S.putB k) (S.putS k s) w (.returned (.bool true)) w') := Lib.hid (fun hp w' v' hc hk => by
    refine ⟨by rw [hp], ⟨⟨v', ?_⟩, HWP.out⟩, hk⟩
    rw [IxS.put_yes hp]
    exact hc)
  obtain ⟨⟨v, hc⟩, hw⟩ := h
  obtain ⟨A, c, rfl, hnc, _, _⟩ := hc.r.form
  have g0 := hc.cells.1
  have g1 := hc.cells.2
  have hl := IxS.lens hw
  obtain ⟨n, hn⟩ : ∃ n, S.L.length = n := ⟨_, rfl⟩
  obtain ⟨R, hR⟩ : ∃ R, S.room = R := ⟨_, rfl⟩
  have hle := hw.le
  rw [hn, hR] at hle
  rw [hn] at g0 hl
  rw [hR] at g1 hl
  have HNR := Lib.hid (And.intro hn hR)
  clear hc hw hnc hge hhe hn hR
  go_enter Tryd.func9, Tryd.ntmps9
  go_wp2_with fail
  refine HG.out.mono ?_
  rintro r w' ⟨rfl, rfl⟩
  cases hh with
  | false =>
    by_cases hfull : R ≤ n
    · have HNO : Hid (RxTo rb (S.putB k) (S.putS k s) w (.returned (.bool false)) (w.drewN 0)) := Lib.hid (by
        have hb : S.putB k = false := by
          unfold IxS.putB
          rw [HHE.out, HNR.out.1, HNR.out.2]
          simp
          omega
        refine ⟨by rw [hb], ?_, Kept.refl _ _⟩
        rw [IxS.put_no hb]
        exact HM.out)
      have HNO2 : Hid (∀ m, RxTo rb (S.putB k) (S.putS k s) w (.returned (.bool false)) (w.drewN m)) := Lib.hid (fun m => ⟨HNO.out.1, HNO.out.2.1.up (kept_drewN (Kept.refl (fun _ => False) w) m |>.below (Nat.le_refl _) (fun _ h => h.elim)), kept_drewN (Kept.refl _ _) m⟩)
      have hg : (R : Int) ≤ (n : Int) := by omega
      clear HNO hfull
      go_wp2_with fail
      go_quiet (fail)
      go_wp2_with fail
      go_ret
      exact HNO2.out _
    · have HPB : Hid (S.putB k = true) := Lib.hid (by
        unfold IxS.putB
        rw [HNR.out.1, HNR.out.2]
        simp
        omega)
      have hg : ¬ ((R : Int) ≤ (n : Int)) := by omega
      have HD2 : Hid (∀ m, Calls Tryd.prog 11 #[.pointer (some ⟨rb, 0, none⟩), .int .u32 (k : Int)] (w.drewN m) (RxTo rb false (S.dropS k) (w.drewN m))) := Lib.hid (fun m => by
        have := ydrop_at k (HM.out.up (kept_drewN (Kept.refl (fun _ => False) w) m |>.below (Nat.le_refl _) (fun _ h => h.elim)))
        rwa [HHE.out] at this)
      have HK0 : Hid (∀ m, Kept (fun k => k = rb) w (w.drewN m)) := Lib.hid (fun m => kept_drewN (Kept.refl _ _) m)
      clear hfull
      go_wp2_with fail
      go_quiet (fail)
      go_wp2_with fail
      refine (HD2.out _).mono ?_
      rintro r w1 ⟨rfl, hm1, hk1⟩
      have hk1 := (HK0.out _).and hk1
      have HK1 := Lib.hid hk1
      obtain ⟨⟨v1, hc1⟩, hw1⟩ := hm1
      obtain ⟨A1, c1, rfl, hnc1, _, _⟩ := hc1.r.form
      obtain ⟨L1, hL1⟩ : ∃ L1, (S.dropS k).L = L1 := ⟨_, rfl⟩
      have hL1' : dropL S.L k = L1 := hL1
      have hl1 := (IxS.lens hw1).1
      have hr1 : (S.dropS k).room = S.room := rfl
      rw [hL1] at hl1
      obtain ⟨n1, hn1⟩ : ∃ n1, L1.length = n1 := ⟨_, rfl⟩
      have HN1 := Lib.hid hn1
      have HC1 := Lib.hid hc1
      rw [hL1, hn1] at HC1
      have HOR : Hid (OwnK w1 (rb + 1) 57 2 (.slice A1 n1 c1) n1 (prsC L1)) := Lib.hid (by have := hc1.r; rw [hL1, hn1] at this; exact this)
      have HE2 := Lib.hid (HE.out HPB.out)
      rw [hL1'] at HE2
      have hlt1 := lt_of_block hc1.b
      have HSS : Hid (∀ u, Below w1.heap.size w1 u → u.cell? ⟨rb, 0, none⟩ = some (.slice A1 n1 c1)) := Lib.hid (fun u hu => (HC1.out.up hu).cells.1)
      have HLN1 : Hid (L1.length ≤ 64) := Lib.hid hl1
      rw [hn1] at hl1
      have HO0 : Hid (OwnK (w1.alloc (.cells #[] 57)) w1.heap.size 57 2 (.slice (some ⟨w1.heap.size, 0, none⟩) 0 0) 0 []) := Lib.hid (OwnK.new w1 _ _ 2 0 [] (Nat.le_refl _) rfl (by omega))
      have HB0 : Hid (Below w1.heap.size w1 (w1.alloc (.cells #[] 57))) := Lib.hid ((Below.refl _ _).alloc (Nat.le_refl _) _)
      clear hk1 hc1 hw1 hnc1 hL1 hL1' hr1 hn1 HE HM HD HG HWP HW HNR HPB g0 g1
      go_wp2_with fail
      go_loopg [9, 10] n1 (fun q x y wr => ∃ i : Nat, i ≤ n1 ∧ q = n1 - i ∧ y = .int .i64 (i : Int) ∧ (∀ j (hj : j < i) (hl : j < L1.length), L1[j].1 < k) ∧ OwnK wr w1.heap.size 57 2 x i (prsC (L1.take i)) ∧ Below w1.heap.size w1 wr)
      case atStart => exact ⟨0, by omega, rfl, rfl, fun j hj => by omega, by simpa [prsC] using HO0.out, HB0.out⟩
      case round =>
        clear HO0 HB0
        obtain ⟨i, hi, hq, rfl, hlow, ho, hb⟩ := hrel
        have HQ := Lib.hid hq
        have HLOW := Lib.hid hlow
        have HO := Lib.hid ho
        have HB := Lib.hid hb
        clear hq hlow ho hb
        have g0 := HSS.out _ HB.out
        by_cases hlt : i < n1
        · have hll : i < L1.length := by rw [HN1.out]; exact hlt
          have hg : (i : Int) < (n1 : Int) := by omega
          obtain ⟨b, o, hA1, hbl, hcell⟩ := HOR.out.rd (by rw [prsC_len, HN1.out]; omega)
          obtain ⟨p0, p1⟩ := pair_at hcell i hll
          have c0 := (HB.out.cell (p := ⟨b, o + i * 2, none⟩) hbl).trans p0
          have c1' := (HB.out.cell (p := ⟨b, o + i * 2 + 1, none⟩) hbl).trans p1
          have HT : Hid (L1.take (i + 1) = L1.take i ++ [L1[i]]) := Lib.hid (List.take_succ_eq_append_getElem hll)
          by_cases hlk : L1[i].1 < k
          · have HLOW2 : Hid (∀ j (hj : j < i + 1) (hl : j < L1.length), L1[j].1 < k) := Lib.hid (fun j hj hl => by
              by_cases e : j = i
              · subst e
                exact hlk
              · exact HLOW.out j (by omega) hl)
            obtain ⟨x, hx⟩ : ∃ x, L1[i].1 = x := ⟨_, rfl⟩
            obtain ⟨sx, hs⟩ : ∃ s, L1[i].2 = s := ⟨_, rfl⟩
            have hxs : L1[i] = (x, sx) := by rw [← hx, ← hs]
            rw [hxs] at c0 c1' HT hlk
            have hgx : (x : Int) < (k : Int) := by
              have : x < k := hlk
              omega
            obtain ⟨lst, hlst⟩ : ∃ lst, L1.take i = lst := ⟨_, rfl⟩
            rw [hlst] at HT HO
            obtain ⟨w7, hw7⟩ : ∃ w7, wr.alloc (.cells #[.int .u32 (x : Int), .int .i64 sx] 57) = w7 := ⟨_, rfl⟩
            have hb7 : Below wr.heap.size wr w7 := by rw [← hw7]; exact (Below.refl _ _).alloc (Nat.le_refl _) _
            have HO7 := Lib.hid (HO.out.up hb7)
            have HB7 := Lib.hid (below_all HB.out hb7)
            have HR7 : Hid (RdV w7 w7.heap.size (some ⟨wr.heap.size, 0, none⟩) [.int .u32 (x : Int), .int .i64 sx]) := Lib.hid (fun _ => ⟨wr.heap.size, 0, rfl, by rw [← hw7]; simp, fun i hi => by rw [Nat.zero_add, ← hw7]; exact Blk.cell (T := 57) (heap_alloc_new wr _) i hi⟩)
            clear hcell p0 p1 hx hs hxs hlst hb7 HO HB HLOW hlk
            subst hA1
            go_wp2_with (first
              | (at_builtin; refine appP _ rfl (.tmp 54) (.tmp 62) 42 57 (.agg #[.int .u32 0, .int .i64 0]) 2 16 rfl Tryd.underlying42 prInfo rfl (by decide) (by decide) w1.heap.size i 1 1 u9 (prsC lst) [.int .u32 (x : Int), .int .i64 sx] (some ⟨wr.heap.size, 0, none⟩) rfl HO7.out rfl rfl HR7.out (fun e => by cases e) (fun u hu => by simp only [List.mem_cons, List.not_mem_nil, or_false] at hu; rcases hu with rfl | rfl <;> rfl) (by omega) HB7.out.size ?_; intro v8 w8 ho hg; have HO8 : Hid (OwnK w8 w1.heap.size 57 2 v8 (i + 1) (prsC (L1.take (i + 1)))) := Lib.hid (by rw [HT.out, prsC_app]; exact ho); have HB8 := Lib.hid (below_grown HB7.out hg (fun e he => HO7.out.own e he)); clear ho hg)
              | fail)
            go_roundg (n1 - (i + 1))
            case rel => exact ⟨i + 1, by omega, rfl, by go_num, HLOW2.out, HO8.out, HB8.out⟩
            case measure => have := HQ.out; omega
          · have HIN : Hid (insL L1 k s = L1.take i ++ (k, s) :: L1.drop i) := Lib.hid (ins_split (by omega) HLOW.out (fun _ => hlk))
            have hgx : ¬ ((L1[i].1 : Int) < (k : Int)) := by omega
            generalize L1[i].1 = x at *
            clear hcell p0 p1 c1' HLOW hlk HT
            subst hA1
            go_wp2_with fail
            obtain ⟨AX, cX, hs1, hs2, han, hax⟩ := HOR.out.tail hi HN1.out
            have HAN := Lib.hid han
            have HAX := Lib.hid hax
            have HLN : Hid ((insL L1 k s).length = i + 1 + (n1 - i)) := Lib.hid (by rw [insL_len, HN1.out]; omega)
            have HE := Lib.hid (fun w' v' => HE2.out w' v')
            clear han hax
            refine wp_region_parts (S := fun u => u.cell? ⟨rb, 0, none⟩ = some (.slice (some ⟨b, o, none⟩) n1 c1)) 14 3 _ (by kernel_rfl) (by kernel_rfl) (by rfl) (by simp only [List.take_succ_cons, List.take_zero]; rfl) ?_ (fun hHeld => ?_)
            · exact HSS.out _ HB.out.drew
            refine wpAnyH_take (i := 0) (v := ?_) rfl (by kernel_rfl) (by kernel_rfl) (by kernel_rfl) (fun _ _ _ h => h) (Or.inl ⟨by rfl, ?_⟩) hHeld ?_
            rotate_left
            · intro u hSu
              obtain x0 := hSu
              go_simp
              try with_reducible rfl
            try simp only [Act.put, List.setIfInBounds_toArray, List.set_cons_zero, List.set_cons_succ, List.getElem_toArray, List.getElem_cons_zero, List.getElem_cons_succ]
            refine wpAnyH_take (i := 1) (v := ?_) rfl (by kernel_rfl) (by kernel_rfl) (by kernel_rfl) (fun _ _ _ h => h) (Or.inl ⟨by rfl, ?_⟩) hHeld ?_
            rotate_left
            · intro u hSu
              obtain x0 := hSu
              go_simp
              try with_reducible rfl
            try simp only [Act.put, List.setIfInBounds_toArray, List.set_cons_zero, List.set_cons_succ, List.getElem_toArray, List.getElem_cons_zero, List.getElem_cons_succ]
            refine wpAnyH_take (i := 2) (v := ?_) rfl (by kernel_rfl) (by kernel_rfl) (by kernel_rfl) (fun _ _ _ h => h) (Or.inl ⟨by rfl, ?_⟩) hHeld ?_
            rotate_left
            · intro u hSu
              obtain x0 := hSu
              go_simp
              try with_reducible rfl
            try simp only [Act.put, List.setIfInBounds_toArray, List.set_cons_zero, List.set_cons_succ, List.getElem_toArray, List.getElem_cons_zero, List.getElem_cons_succ]
            refine wpAnyH_take (i := 3) (v := ?_) rfl (by kernel_rfl) (by kernel_rfl) (by kernel_rfl) (fun _ _ _ h => h) (Or.inl ⟨by rfl, ?_⟩) hHeld ?_
            rotate_left
            · intro u hSu
              obtain x0 := hSu
              go_simp
              try with_reducible rfl
            try simp only [Act.put, List.setIfInBounds_toArray, List.set_cons_zero, List.set_cons_succ, List.getElem_toArray, List.getElem_cons_zero, List.getElem_cons_succ]
            refine wpAnyH_take (i := 4) (v := ?_) rfl (by kernel_rfl) (by kernel_rfl) (by kernel_rfl) (fun _ _ _ h => h) (Or.inl ⟨by rfl, ?_⟩) hHeld ?_
            rotate_left
            · intro u hSu
              obtain x0 := hSu
              go_simp
              try with_reducible rfl
            try simp only [Act.put, List.setIfInBounds_toArray, List.set_cons_zero, List.set_cons_succ, List.getElem_toArray, List.getElem_cons_zero, List.getElem_cons_succ]
            refine wpAnyH_take (i := 7) (v := ?_) rfl (by kernel_rfl) (by kernel_rfl) (by kernel_rfl) (fun _ _ _ h => h) (Or.inl ⟨by rfl, ?_⟩) hHeld ?_
            rotate_left
            · intro u hSu
              obtain x0 := hSu
              go_simp
              try with_reducible rfl
            try simp only [Act.put, List.setIfInBounds_toArray, List.set_cons_zero, List.set_cons_succ, List.getElem_toArray, List.getElem_cons_zero, List.getElem_cons_succ]
            refine wpAnyH_take (i := 8) (v := ?_) rfl (by kernel_rfl) (by kernel_rfl) (by kernel_rfl) (fun _ _ _ h => h) (Or.inl ⟨by rfl, ?_⟩) hHeld ?_
            rotate_left
            · intro u hSu
              obtain x0 := hSu
              go_simp
              try with_reducible rfl
            try simp only [Act.put, List.setIfInBounds_toArray, List.set_cons_zero, List.set_cons_succ, List.getElem_toArray, List.getElem_cons_zero, List.getElem_cons_succ]
            refine wpAnyH_take (i := 9) (v := ?_) rfl (by kernel_rfl) (by kernel_rfl) (by kernel_rfl) (fun _ _ _ h => h) (Or.inl ⟨by rfl, ?_⟩) hHeld ?_
            rotate_left
            · intro u hSu
              obtain x0 := hSu
              go_simp
              try with_reducible rfl
            try simp only [Act.put, List.setIfInBounds_toArray, List.set_cons_zero, List.set_cons_succ, List.getElem_toArray, List.getElem_cons_zero, List.getElem_cons_succ]
            refine wpAnyH_take (i := 10) (v := ?_) rfl (by kernel_rfl) (by kernel_rfl) (by kernel_rfl) (fun _ _ _ h => h) (Or.inl ⟨by rfl, ?_⟩) hHeld ?_
            rotate_left
            · intro u hSu
              obtain x0 := hSu
              go_simp
              try with_reducible rfl
            try simp only [Act.put, List.setIfInBounds_toArray, List.set_cons_zero, List.set_cons_succ, List.getElem_toArray, List.getElem_cons_zero, List.getElem_cons_succ]
            refine wpAnyH_take (i := 11) (v := ?_) rfl (by kernel_rfl) (by kernel_rfl) (by kernel_rfl) (fun _ _ _ h => h) (Or.inl ⟨by rfl, ?_⟩) hHeld ?_
            rotate_left
            · intro u hSu
              obtain x0 := hSu
              go_simp
              try with_reducible rfl
            try simp only [Act.put, List.setIfInBounds_toArray, List.set_cons_zero, List.set_cons_succ, List.getElem_toArray, List.getElem_cons_zero, List.getElem_cons_succ]
            refine wpAnyH_take (i := 12) (v := ?_) rfl (by kernel_rfl) (by kernel_rfl) (by kernel_rfl) (fun _ _ _ h => h) (Or.inl ⟨by rfl, ?_⟩) hHeld ?_
            rotate_left
            · intro u hSu
              obtain x0 := hSu
              go_simp
              try with_reducible rfl
            try simp only [Act.put, List.setIfInBounds_toArray, List.set_cons_zero, List.set_cons_succ, List.getElem_toArray, List.getElem_cons_zero, List.getElem_cons_succ]
            obtain ⟨w6, hw6⟩ : ∃ w6, wr.drew = w6 := ⟨_, rfl⟩
            have HB56 : Hid (Below w1.heap.size w1 w6) := Lib.hid (by rw [← hw6]; exact HB.out.drew)
            have HO56 : Hid (OwnK w6 w1.heap.size 57 2 u9 i (prsC (L1.take i))) := Lib.hid (by rw [← hw6]; exact HO.out.up (Below.refl _ _).drew)
            rw [hw6] at hHeld ⊢
            clear hw6
            obtain ⟨w7, hw7⟩ : ∃ w7, w6.alloc (.cells #[.int .u32 (k : Int), .int .i64 s] 57) = w7 := ⟨_, rfl⟩
            have hb7 : Below w6.heap.size w6 w7 := by rw [← hw7]; exact (Below.refl _ _).alloc (Nat.le_refl _) _
            have HB7 : Hid (Below w1.heap.size w1 w7) := Lib.hid (below_all HB56.out hb7)
            have HO7 := Lib.hid (HO56.out.up hb7)
            have HR7 : Hid (RdV w7 w7.heap.size (some ⟨w6.heap.size, 0, none⟩) [.int .u32 (k : Int), .int .i64 s]) := Lib.hid (fun _ => ⟨w6.heap.size, 0, rfl, by rw [← hw7]; simp, fun i hi => by rw [Nat.zero_add, ← hw7]; exact Blk.cell (T := 57) (heap_alloc_new w6 _) i hi⟩)
            clear hb7 HB56 HO56
            refine wpAnyH_ready (rs := [5]) (by kernel_rfl) (by simp) ?_
            refine (AllReadyH.cons rfl (fun K hK => ?_) AllReadyH.nil)
            go_simp
            try rw [hw7]
            refine hK.out _ _ ?_ (fun hHeld2 => ?_)
            · exact HSS.out _ HB7.out
            clear hK K hHeld
            have hHeld := hHeld2
            clear hHeld2
            try simp only [Act.put, List.setIfInBounds_toArray, List.set_cons_zero, List.set_cons_succ, List.getElem_toArray, List.getElem_cons_zero, List.getElem_cons_succ]
            refine wpAnyH_ready (rs := [6]) (by kernel_rfl) (by simp) ?_
            refine (AllReadyH.cons rfl (fun K hK => ?_) AllReadyH.nil)
            (refine stepP w7 (by rfl) (.tmp 67) (.tmp 71) 42 57 (.agg #[.int .u32 0, .int .i64 0]) 2 16 (by rfl) Tryd.underlying42 prInfo rfl (by decide) (by decide) w1.heap.size i 1 1 u9 (prsC (L1.take i)) [.int .u32 (k : Int), .int .i64 s] (some ⟨w6.heap.size, 0, none⟩) (by rfl) HO7.out (by rfl) rfl HR7.out (fun e => by cases e) (fun u hu => by simp only [List.mem_cons, List.not_mem_nil, or_false] at hu; rcases hu with rfl | rfl <;> rfl) (by omega) HB7.out.size ?_; intro v8 w8 ho hg; have HO8 : Hid (OwnK w8 w1.heap.size 57 2 v8 (i + 1) (prsC (L1.take i) ++ [.int .u32 (k : Int), .int .i64 s])) := Lib.hid ho; have HB8 := Lib.hid (below_grown HB7.out hg (fun e he => HO7.out.own e he)); clear ho hg)
            refine hK.out _ _ ?_ (fun hHeld2 => ?_)
            · exact HSS.out _ HB8.out
            clear hK K hHeld
            have hHeld := hHeld2
            clear hHeld2
            try simp only [Act.put, List.setIfInBounds_toArray, List.set_cons_zero, List.set_cons_succ, List.getElem_toArray, List.getElem_cons_zero, List.getElem_cons_succ]
            refine wpAnyH_ready (rs := [13]) (by kernel_rfl) (by simp) ?_
            refine (AllReadyH.cons rfl (fun K hK => ?_) AllReadyH.nil)
            (refine stepP w8 (by rfl) (.tmp 72) (.tmp 78) 42 57 (.agg #[.int .u32 0, .int .i64 0]) 2 16 (by rfl) Tryd.underlying42 prInfo rfl (by decide) (by decide) w1.heap.size (i + 1) (n1 - i) cX v8 _ (prsC (L1.drop i)) AX (by rfl) HO8.out (by rfl) (by rw [prsC_len, List.length_drop, HN1.out]) (HAX.out w8 HB8.out) HAN.out (prsC_one _) (by omega) HB8.out.size ?_; intro v9 w9 ho hg; have HO9 : Hid (OwnK w9 w1.heap.size 57 2 v9 (i + 1 + (n1 - i)) (prsC (insL L1 k s))) := Lib.hid (by rw [HIN.out, prsC_app, show prsC ((k, s) :: L1.drop i) = [.int .u32 (k : Int), .int .i64 s] ++ prsC (L1.drop i) from rfl, ← List.append_assoc]; exact ho); have HB9 := Lib.hid (below_grown HB8.out hg (fun e he => HO8.out.own e he)); have f9 := (HC1.out.up HB9.out).b.free 0; have k9 := (HC1.out.up HB9.out).cells.1; clear ho hg)
            refine hK.out _ _ ?_ (fun hHeld2 => ?_)
            · exact HSS.out _ HB9.out
            clear hK K hHeld
            have hHeld := hHeld2
            clear hHeld2
            try simp only [Act.put, List.setIfInBounds_toArray, List.set_cons_zero, List.set_cons_succ, List.getElem_toArray, List.getElem_cons_zero, List.getElem_cons_succ]
            refine wpAnyH_done (by kernel_rfl) ?_ _
            show wpAny _ _ _ _ 3 _ _ _
            clear hHeld
            refine wpAny_take (i := 14) (v := ?_) rfl (by kernel_rfl) (by kernel_rfl) (by kernel_rfl) (fun _ _ _ h => h) (Or.inl ⟨by rfl, ?_⟩) ?_
            rotate_left
            · intro u
              go_simp
              try with_reducible rfl
            try simp only [Act.put, List.setIfInBounds_toArray, List.set_cons_zero, List.set_cons_succ, List.getElem_toArray, List.getElem_cons_zero, List.getElem_cons_succ]
            refine wpAny_take (i := 15) (v := ?_) rfl (by kernel_rfl) (by kernel_rfl) (by kernel_rfl) (fun _ _ _ h => h) (Or.inl ⟨by rfl, ?_⟩) ?_
            rotate_left
            · intro u
              go_simp
              try with_reducible rfl
            try simp only [Act.put, List.setIfInBounds_toArray, List.set_cons_zero, List.set_cons_succ, List.getElem_toArray, List.getElem_cons_zero, List.getElem_cons_succ]
            have hnew := HC1.out.newL HB9.out HO9.out (Nat.le_refl _) HLN.out
            have HNW := Lib.hid hnew.1
            have HKW := Lib.hid (HK1.out.and hnew.2)
            clear hnew
            obtain ⟨A9, c9, rfl, _, _, _⟩ := HO9.out.form
            refine wpAny_ready (rs := [16]) (by kernel_rfl) (by simp) ?_
            refine AllReady.cons rfl (fun K hK => ?_) AllReady.nil
            go_simp
            refine hK _ _ ?_
            clear hK K
            refine wpAny_done (by kernel_rfl) ?_ _
            go_wp2_with fail
            go_ret
            exact HE.out _ _ HNW.out HKW.out
        · have HIN : Hid (insL L1 k s = L1.take i ++ (k, s) :: L1.drop i) := Lib.hid (ins_split (by have := HN1.out; omega) HLOW.out (fun h => by have := HN1.out; omega))
          have hg : decide ((i : Int) < (n1 : Int)) = false := by simp; omega
          clear HLOW
          go_wp2_with fail
          obtain ⟨AX, cX, hs1, hs2, han, hax⟩ := HOR.out.tail hi HN1.out
          have HAN := Lib.hid han
          have HAX := Lib.hid hax
          have HLN : Hid ((insL L1 k s).length = i + 1 + (n1 - i)) := Lib.hid (by rw [insL_len, HN1.out]; omega)
          have HE := Lib.hid (fun w' v' => HE2.out w' v')
          clear han hax
          refine wp_region_parts (S := fun u => u.cell? ⟨rb, 0, none⟩ = some (.slice A1 n1 c1)) 14 3 _ (by kernel_rfl) (by kernel_rfl) (by rfl) (by simp only [List.take_succ_cons, List.take_zero]; rfl) ?_ (fun hHeld => ?_)
          · exact HSS.out _ HB.out.drew
          refine wpAnyH_take (i := 0) (v := ?_) rfl (by kernel_rfl) (by kernel_rfl) (by kernel_rfl) (fun _ _ _ h => h) (Or.inl ⟨by rfl, ?_⟩) hHeld ?_
          rotate_left
          · intro u hSu
            obtain x0 := hSu
            go_simp
            try with_reducible rfl
          try simp only [Act.put, List.setIfInBounds_toArray, List.set_cons_zero, List.set_cons_succ, List.getElem_toArray, List.getElem_cons_zero, List.getElem_cons_succ]
          refine wpAnyH_take (i := 1) (v := ?_) rfl (by kernel_rfl) (by kernel_rfl) (by kernel_rfl) (fun _ _ _ h => h) (Or.inl ⟨by rfl, ?_⟩) hHeld ?_
          rotate_left
          · intro u hSu
            obtain x0 := hSu
            go_simp
            try with_reducible rfl
          try simp only [Act.put, List.setIfInBounds_toArray, List.set_cons_zero, List.set_cons_succ, List.getElem_toArray, List.getElem_cons_zero, List.getElem_cons_succ]
          refine wpAnyH_take (i := 2) (v := ?_) rfl (by kernel_rfl) (by kernel_rfl) (by kernel_rfl) (fun _ _ _ h => h) (Or.inl ⟨by rfl, ?_⟩) hHeld ?_
          rotate_left
          · intro u hSu
            obtain x0 := hSu
            go_simp
            try with_reducible rfl
          try simp only [Act.put, List.setIfInBounds_toArray, List.set_cons_zero, List.set_cons_succ, List.getElem_toArray, List.getElem_cons_zero, List.getElem_cons_succ]
          refine wpAnyH_take (i := 3) (v := ?_) rfl (by kernel_rfl) (by kernel_rfl) (by kernel_rfl) (fun _ _ _ h => h) (Or.inl ⟨by rfl, ?_⟩) hHeld ?_
          rotate_left
          · intro u hSu
            obtain x0 := hSu
            go_simp
            try with_reducible rfl
          try simp only [Act.put, List.setIfInBounds_toArray, List.set_cons_zero, List.set_cons_succ, List.getElem_toArray, List.getElem_cons_zero, List.getElem_cons_succ]
          refine wpAnyH_take (i := 4) (v := ?_) rfl (by kernel_rfl) (by kernel_rfl) (by kernel_rfl) (fun _ _ _ h => h) (Or.inl ⟨by rfl, ?_⟩) hHeld ?_
          rotate_left
          · intro u hSu
            obtain x0 := hSu
            go_simp
            try with_reducible rfl
          try simp only [Act.put, List.setIfInBounds_toArray, List.set_cons_zero, List.set_cons_succ, List.getElem_toArray, List.getElem_cons_zero, List.getElem_cons_succ]
          refine wpAnyH_take (i := 7) (v := ?_) rfl (by kernel_rfl) (by kernel_rfl) (by kernel_rfl) (fun _ _ _ h => h) (Or.inl ⟨by rfl, ?_⟩) hHeld ?_
          rotate_left
          · intro u hSu
            obtain x0 := hSu
            go_simp
            try with_reducible rfl
          try simp only [Act.put, List.setIfInBounds_toArray, List.set_cons_zero, List.set_cons_succ, List.getElem_toArray, List.getElem_cons_zero, List.getElem_cons_succ]
          refine wpAnyH_take (i := 8) (v := ?_) rfl (by kernel_rfl) (by kernel_rfl) (by kernel_rfl) (fun _ _ _ h => h) (Or.inl ⟨by rfl, ?_⟩) hHeld ?_
          rotate_left
          · intro u hSu
            obtain x0 := hSu
            go_simp
            try with_reducible rfl
          try simp only [Act.put, List.setIfInBounds_toArray, List.set_cons_zero, List.set_cons_succ, List.getElem_toArray, List.getElem_cons_zero, List.getElem_cons_succ]
          refine wpAnyH_take (i := 9) (v := ?_) rfl (by kernel_rfl) (by kernel_rfl) (by kernel_rfl) (fun _ _ _ h => h) (Or.inl ⟨by rfl, ?_⟩) hHeld ?_
          rotate_left
          · intro u hSu
            obtain x0 := hSu
            go_simp
            try with_reducible rfl
          try simp only [Act.put, List.setIfInBounds_toArray, List.set_cons_zero, List.set_cons_succ, List.getElem_toArray, List.getElem_cons_zero, List.getElem_cons_succ]
          refine wpAnyH_take (i := 10) (v := ?_) rfl (by kernel_rfl) (by kernel_rfl) (by kernel_rfl) (fun _ _ _ h => h) (Or.inl ⟨by rfl, ?_⟩) hHeld ?_
          rotate_left
          · intro u hSu
            obtain x0 := hSu
            go_simp
            try with_reducible rfl
          try simp only [Act.put, List.setIfInBounds_toArray, List.set_cons_zero, List.set_cons_succ, List.getElem_toArray, List.getElem_cons_zero, List.getElem_cons_succ]
          refine wpAnyH_take (i := 11) (v := ?_) rfl (by kernel_rfl) (by kernel_rfl) (by kernel_rfl) (fun _ _ _ h => h) (Or.inl ⟨by rfl, ?_⟩) hHeld ?_
          rotate_left
          · intro u hSu
            obtain x0 := hSu
            go_simp
            try with_reducible rfl
          try simp only [Act.put, List.setIfInBounds_toArray, List.set_cons_zero, List.set_cons_succ, List.getElem_toArray, List.getElem_cons_zero, List.getElem_cons_succ]
          refine wpAnyH_take (i := 12) (v := ?_) rfl (by kernel_rfl) (by kernel_rfl) (by kernel_rfl) (fun _ _ _ h => h) (Or.inl ⟨by rfl, ?_⟩) hHeld ?_
          rotate_left
          · intro u hSu
            obtain x0 := hSu
            go_simp
            try with_reducible rfl
          try simp only [Act.put, List.setIfInBounds_toArray, List.set_cons_zero, List.set_cons_succ, List.getElem_toArray, List.getElem_cons_zero, List.getElem_cons_succ]
          obtain ⟨w6, hw6⟩ : ∃ w6, wr.drew = w6 := ⟨_, rfl⟩
          have HB56 : Hid (Below w1.heap.size w1 w6) := Lib.hid (by rw [← hw6]; exact HB.out.drew)
          have HO56 : Hid (OwnK w6 w1.heap.size 57 2 u9 i (prsC (L1.take i))) := Lib.hid (by rw [← hw6]; exact HO.out.up (Below.refl _ _).drew)
          rw [hw6] at hHeld ⊢
          clear hw6
          obtain ⟨w7, hw7⟩ : ∃ w7, w6.alloc (.cells #[.int .u32 (k : Int), .int .i64 s] 57) = w7 := ⟨_, rfl⟩
          have hb7 : Below w6.heap.size w6 w7 := by rw [← hw7]; exact (Below.refl _ _).alloc (Nat.le_refl _) _
          have HB7 : Hid (Below w1.heap.size w1 w7) := Lib.hid (below_all HB56.out hb7)
          have HO7 := Lib.hid (HO56.out.up hb7)
          have HR7 : Hid (RdV w7 w7.heap.size (some ⟨w6.heap.size, 0, none⟩) [.int .u32 (k : Int), .int .i64 s]) := Lib.hid (fun _ => ⟨w6.heap.size, 0, rfl, by rw [← hw7]; simp, fun i hi => by rw [Nat.zero_add, ← hw7]; exact Blk.cell (T := 57) (heap_alloc_new w6 _) i hi⟩)
          clear hb7 HB56 HO56
          refine wpAnyH_ready (rs := [5]) (by kernel_rfl) (by simp) ?_
          refine (AllReadyH.cons rfl (fun K hK => ?_) AllReadyH.nil)
          go_simp
          try rw [hw7]
          refine hK.out _ _ ?_ (fun hHeld2 => ?_)
          · exact HSS.out _ HB7.out
          clear hK K hHeld
          have hHeld := hHeld2
          clear hHeld2
          try simp only [Act.put, List.setIfInBounds_toArray, List.set_cons_zero, List.set_cons_succ, List.getElem_toArray, List.getElem_cons_zero, List.getElem_cons_succ]
          refine wpAnyH_ready (rs := [6]) (by kernel_rfl) (by simp) ?_
          refine (AllReadyH.cons rfl (fun K hK => ?_) AllReadyH.nil)
          (refine stepP w7 (by rfl) (.tmp 67) (.tmp 71) 42 57 (.agg #[.int .u32 0, .int .i64 0]) 2 16 (by rfl) Tryd.underlying42 prInfo rfl (by decide) (by decide) w1.heap.size i 1 1 u9 (prsC (L1.take i)) [.int .u32 (k : Int), .int .i64 s] (some ⟨w6.heap.size, 0, none⟩) (by rfl) HO7.out (by rfl) rfl HR7.out (fun e => by cases e) (fun u hu => by simp only [List.mem_cons, List.not_mem_nil, or_false] at hu; rcases hu with rfl | rfl <;> rfl) (by omega) HB7.out.size ?_; intro v8 w8 ho hg; have HO8 : Hid (OwnK w8 w1.heap.size 57 2 v8 (i + 1) (prsC (L1.take i) ++ [.int .u32 (k : Int), .int .i64 s])) := Lib.hid ho; have HB8 := Lib.hid (below_grown HB7.out hg (fun e he => HO7.out.own e he)); clear ho hg)
          refine hK.out _ _ ?_ (fun hHeld2 => ?_)
          · exact HSS.out _ HB8.out
          clear hK K hHeld
          have hHeld := hHeld2
          clear hHeld2
          try simp only [Act.put, List.setIfInBounds_toArray, List.set_cons_zero, List.set_cons_succ, List.getElem_toArray, List.getElem_cons_zero, List.getElem_cons_succ]
          refine wpAnyH_ready (rs := [13]) (by kernel_rfl) (by simp) ?_
          refine (AllReadyH.cons rfl (fun K hK => ?_) AllReadyH.nil)
          (refine stepP w8 (by rfl) (.tmp 72) (.tmp 78) 42 57 (.agg #[.int .u32 0, .int .i64 0]) 2 16 (by rfl) Tryd.underlying42 prInfo rfl (by decide) (by decide) w1.heap.size (i + 1) (n1 - i) cX v8 _ (prsC (L1.drop i)) AX (by rfl) HO8.out (by rfl) (by rw [prsC_len, List.length_drop, HN1.out]) (HAX.out w8 HB8.out) HAN.out (prsC_one _) (by omega) HB8.out.size ?_; intro v9 w9 ho hg; have HO9 : Hid (OwnK w9 w1.heap.size 57 2 v9 (i + 1 + (n1 - i)) (prsC (insL L1 k s))) := Lib.hid (by rw [HIN.out, prsC_app, show prsC ((k, s) :: L1.drop i) = [.int .u32 (k : Int), .int .i64 s] ++ prsC (L1.drop i) from rfl, ← List.append_assoc]; exact ho); have HB9 := Lib.hid (below_grown HB8.out hg (fun e he => HO8.out.own e he)); have f9 := (HC1.out.up HB9.out).b.free 0; have k9 := (HC1.out.up HB9.out).cells.1; clear ho hg)
          refine hK.out _ _ ?_ (fun hHeld2 => ?_)
          · exact HSS.out _ HB9.out
          clear hK K hHeld
          have hHeld := hHeld2
          clear hHeld2
          try simp only [Act.put, List.setIfInBounds_toArray, List.set_cons_zero, List.set_cons_succ, List.getElem_toArray, List.getElem_cons_zero, List.getElem_cons_succ]
          refine wpAnyH_done (by kernel_rfl) ?_ _
          show wpAny _ _ _ _ 3 _ _ _
          clear hHeld
          refine wpAny_take (i := 14) (v := ?_) rfl (by kernel_rfl) (by kernel_rfl) (by kernel_rfl) (fun _ _ _ h => h) (Or.inl ⟨by rfl, ?_⟩) ?_
          rotate_left
          · intro u
            go_simp
            try with_reducible rfl
          try simp only [Act.put, List.setIfInBounds_toArray, List.set_cons_zero, List.set_cons_succ, List.getElem_toArray, List.getElem_cons_zero, List.getElem_cons_succ]
          refine wpAny_take (i := 15) (v := ?_) rfl (by kernel_rfl) (by kernel_rfl) (by kernel_rfl) (fun _ _ _ h => h) (Or.inl ⟨by rfl, ?_⟩) ?_
          rotate_left
          · intro u
            go_simp
            try with_reducible rfl
          try simp only [Act.put, List.setIfInBounds_toArray, List.set_cons_zero, List.set_cons_succ, List.getElem_toArray, List.getElem_cons_zero, List.getElem_cons_succ]
          have hnew := HC1.out.newL HB9.out HO9.out (Nat.le_refl _) HLN.out
          have HNW := Lib.hid hnew.1
          have HKW := Lib.hid (HK1.out.and hnew.2)
          clear hnew
          obtain ⟨A9, c9, rfl, _, _, _⟩ := HO9.out.form
          refine wpAny_ready (rs := [16]) (by kernel_rfl) (by simp) ?_
          refine AllReady.cons rfl (fun K hK => ?_) AllReady.nil
          go_simp
          refine hK _ _ ?_
          clear hK K
          refine wpAny_done (by kernel_rfl) ?_ _
          go_wp2_with fail
          go_ret
          exact HE.out _ _ HNW.out HKW.out
  | true =>
    have HPB : Hid (S.putB k = true) := Lib.hid (by
      unfold IxS.putB
      rw [HHE.out]
      rfl)
    go_wp2_with fail
    go_quiet (fail)
    go_wp2_with fail
    have HD2 : Hid (∀ m, Calls Tryd.prog 11 #[.pointer (some ⟨rb, 0, none⟩), .int .u32 (k : Int)] (w.drewN m) (RxTo rb true (S.dropS k) (w.drewN m))) := Lib.hid (fun m => by
      have := ydrop_at k (HM.out.up (kept_drewN (Kept.refl (fun _ => False) w) m |>.below (Nat.le_refl _) (fun _ h => h.elim)))
      rwa [HHE.out] at this)
    have HK0 : Hid (∀ m, Kept (fun k => k = rb) w (w.drewN m)) := Lib.hid (fun m => kept_drewN (Kept.refl _ _) m)
    refine (HD2.out _).mono ?_
    rintro r w1 ⟨rfl, hm1, hk1⟩
    have hk1 := (HK0.out _).and hk1
    have HK1 := Lib.hid hk1
    obtain ⟨⟨v1, hc1⟩, hw1⟩ := hm1
    obtain ⟨A1, c1, rfl, hnc1, _, _⟩ := hc1.r.form
    obtain ⟨L1, hL1⟩ : ∃ L1, (S.dropS k).L = L1 := ⟨_, rfl⟩
    have hL1' : dropL S.L k = L1 := hL1
    have hl1 := (IxS.lens hw1).1
    have hr1 : (S.dropS k).room = S.room := rfl
    rw [hL1] at hl1
    obtain ⟨n1, hn1⟩ : ∃ n1, L1.length = n1 := ⟨_, rfl⟩
    have HN1 := Lib.hid hn1
    have HC1 := Lib.hid hc1
    rw [hL1, hn1] at HC1
    have HOR : Hid (OwnK w1 (rb + 1) 57 2 (.slice A1 n1 c1) n1 (prsC L1)) := Lib.hid (by have := hc1.r; rw [hL1, hn1] at this; exact this)
    have HE2 := Lib.hid (HE.out HPB.out)
    rw [hL1'] at HE2
    have hlt1 := lt_of_block hc1.b
    have HSS : Hid (∀ u, Below w1.heap.size w1 u → u.cell? ⟨rb, 0, none⟩ = some (.slice A1 n1 c1)) := Lib.hid (fun u hu => (HC1.out.up hu).cells.1)
    have HLN1 : Hid (L1.length ≤ 64) := Lib.hid hl1
    rw [hn1] at hl1
    have HO0 : Hid (OwnK (w1.alloc (.cells #[] 57)) w1.heap.size 57 2 (.slice (some ⟨w1.heap.size, 0, none⟩) 0 0) 0 []) := Lib.hid (OwnK.new w1 _ _ 2 0 [] (Nat.le_refl _) rfl (by omega))
    have HB0 : Hid (Below w1.heap.size w1 (w1.alloc (.cells #[] 57))) := Lib.hid ((Below.refl _ _).alloc (Nat.le_refl _) _)
    clear hk1 hc1 hw1 hnc1 hL1 hL1' hr1 hn1 HE HM HD HG HWP HW HNR HPB g0 g1
    go_wp2_with fail
    go_loopg [9, 10] n1 (fun q x y wr => ∃ i : Nat, i ≤ n1 ∧ q = n1 - i ∧ y = .int .i64 (i : Int) ∧ (∀ j (hj : j < i) (hl : j < L1.length), L1[j].1 < k) ∧ OwnK wr w1.heap.size 57 2 x i (prsC (L1.take i)) ∧ Below w1.heap.size w1 wr)
    case atStart => exact ⟨0, by omega, rfl, rfl, fun j hj => by omega, by simpa [prsC] using HO0.out, HB0.out⟩
    case round =>
      clear HO0 HB0
      obtain ⟨i, hi, hq, rfl, hlow, ho, hb⟩ := hrel
      have HQ := Lib.hid hq
      have HLOW := Lib.hid hlow
      have HO := Lib.hid ho
      have HB := Lib.hid hb
      clear hq hlow ho hb
      have g0 := HSS.out _ HB.out
      by_cases hlt : i < n1
      · have hll : i < L1.length := by rw [HN1.out]; exact hlt
        have hg : (i : Int) < (n1 : Int) := by omega
        obtain ⟨b, o, hA1, hbl, hcell⟩ := HOR.out.rd (by rw [prsC_len, HN1.out]; omega)
        obtain ⟨p0, p1⟩ := pair_at hcell i hll
        have c0 := (HB.out.cell (p := ⟨b, o + i * 2, none⟩) hbl).trans p0
        have c1' := (HB.out.cell (p := ⟨b, o + i * 2 + 1, none⟩) hbl).trans p1
        have HT : Hid (L1.take (i + 1) = L1.take i ++ [L1[i]]) := Lib.hid (List.take_succ_eq_append_getElem hll)
        by_cases hlk : L1[i].1 < k
        · have HLOW2 : Hid (∀ j (hj : j < i + 1) (hl : j < L1.length), L1[j].1 < k) := Lib.hid (fun j hj hl => by
            by_cases e : j = i
            · subst e
              exact hlk
            · exact HLOW.out j (by omega) hl)
          obtain ⟨x, hx⟩ : ∃ x, L1[i].1 = x := ⟨_, rfl⟩
          obtain ⟨sx, hs⟩ : ∃ s, L1[i].2 = s := ⟨_, rfl⟩
          have hxs : L1[i] = (x, sx) := by rw [← hx, ← hs]
          rw [hxs] at c0 c1' HT hlk
          have hgx : (x : Int) < (k : Int) := by
            have : x < k := hlk
            omega
          obtain ⟨lst, hlst⟩ : ∃ lst, L1.take i = lst := ⟨_, rfl⟩
          rw [hlst] at HT HO
          obtain ⟨w7, hw7⟩ : ∃ w7, wr.alloc (.cells #[.int .u32 (x : Int), .int .i64 sx] 57) = w7 := ⟨_, rfl⟩
          have hb7 : Below wr.heap.size wr w7 := by rw [← hw7]; exact (Below.refl _ _).alloc (Nat.le_refl _) _
          have HO7 := Lib.hid (HO.out.up hb7)
          have HB7 := Lib.hid (below_all HB.out hb7)
          have HR7 : Hid (RdV w7 w7.heap.size (some ⟨wr.heap.size, 0, none⟩) [.int .u32 (x : Int), .int .i64 sx]) := Lib.hid (fun _ => ⟨wr.heap.size, 0, rfl, by rw [← hw7]; simp, fun i hi => by rw [Nat.zero_add, ← hw7]; exact Blk.cell (T := 57) (heap_alloc_new wr _) i hi⟩)
          clear hcell p0 p1 hx hs hxs hlst hb7 HO HB HLOW hlk
          subst hA1
          go_wp2_with (first
            | (at_builtin; refine appP _ rfl (.tmp 54) (.tmp 62) 42 57 (.agg #[.int .u32 0, .int .i64 0]) 2 16 rfl Tryd.underlying42 prInfo rfl (by decide) (by decide) w1.heap.size i 1 1 u9 (prsC lst) [.int .u32 (x : Int), .int .i64 sx] (some ⟨wr.heap.size, 0, none⟩) rfl HO7.out rfl rfl HR7.out (fun e => by cases e) (fun u hu => by simp only [List.mem_cons, List.not_mem_nil, or_false] at hu; rcases hu with rfl | rfl <;> rfl) (by omega) HB7.out.size ?_; intro v8 w8 ho hg; have HO8 : Hid (OwnK w8 w1.heap.size 57 2 v8 (i + 1) (prsC (L1.take (i + 1)))) := Lib.hid (by rw [HT.out, prsC_app]; exact ho); have HB8 := Lib.hid (below_grown HB7.out hg (fun e he => HO7.out.own e he)); clear ho hg)
            | fail)
          go_roundg (n1 - (i + 1))
          case rel => exact ⟨i + 1, by omega, rfl, by go_num, HLOW2.out, HO8.out, HB8.out⟩
          case measure => have := HQ.out; omega
        · have HIN : Hid (insL L1 k s = L1.take i ++ (k, s) :: L1.drop i) := Lib.hid (ins_split (by omega) HLOW.out (fun _ => hlk))
          have hgx : ¬ ((L1[i].1 : Int) < (k : Int)) := by omega
          generalize L1[i].1 = x at *
          clear hcell p0 p1 c1' HLOW hlk HT
          subst hA1
          go_wp2_with fail
          obtain ⟨AX, cX, hs1, hs2, han, hax⟩ := HOR.out.tail hi HN1.out
          have HAN := Lib.hid han
          have HAX := Lib.hid hax
          have HLN : Hid ((insL L1 k s).length = i + 1 + (n1 - i)) := Lib.hid (by rw [insL_len, HN1.out]; omega)
          have HE := Lib.hid (fun w' v' => HE2.out w' v')
          clear han hax
          refine wp_region_parts (S := fun u => u.cell? ⟨rb, 0, none⟩ = some (.slice (some ⟨b, o, none⟩) n1 c1)) 14 3 _ (by kernel_rfl) (by kernel_rfl) (by rfl) (by simp only [List.take_succ_cons, List.take_zero]; rfl) ?_ (fun hHeld => ?_)
          · exact HSS.out _ HB.out.drew
          refine wpAnyH_take (i := 0) (v := ?_) rfl (by kernel_rfl) (by kernel_rfl) (by kernel_rfl) (fun _ _ _ h => h) (Or.inl ⟨by rfl, ?_⟩) hHeld ?_
          rotate_left
          · intro u hSu
            obtain x0 := hSu
            go_simp
            try with_reducible rfl
          try simp only [Act.put, List.setIfInBounds_toArray, List.set_cons_zero, List.set_cons_succ, List.getElem_toArray, List.getElem_cons_zero, List.getElem_cons_succ]
          refine wpAnyH_take (i := 1) (v := ?_) rfl (by kernel_rfl) (by kernel_rfl) (by kernel_rfl) (fun _ _ _ h => h) (Or.inl ⟨by rfl, ?_⟩) hHeld ?_
          rotate_left
          · intro u hSu
            obtain x0 := hSu
            go_simp
            try with_reducible rfl
          try simp only [Act.put, List.setIfInBounds_toArray, List.set_cons_zero, List.set_cons_succ, List.getElem_toArray, List.getElem_cons_zero, List.getElem_cons_succ]
          refine wpAnyH_take (i := 2) (v := ?_) rfl (by kernel_rfl) (by kernel_rfl) (by kernel_rfl) (fun _ _ _ h => h) (Or.inl ⟨by rfl, ?_⟩) hHeld ?_
          rotate_left
          · intro u hSu
            obtain x0 := hSu
            go_simp
            try with_reducible rfl
          try simp only [Act.put, List.setIfInBounds_toArray, List.set_cons_zero, List.set_cons_succ, List.getElem_toArray, List.getElem_cons_zero, List.getElem_cons_succ]
          refine wpAnyH_take (i := 3) (v := ?_) rfl (by kernel_rfl) (by kernel_rfl) (by kernel_rfl) (fun _ _ _ h => h) (Or.inl ⟨by rfl, ?_⟩) hHeld ?_
          rotate_left
          · intro u hSu
            obtain x0 := hSu
            go_simp
            try with_reducible rfl
          try simp only [Act.put, List.setIfInBounds_toArray, List.set_cons_zero, List.set_cons_succ, List.getElem_toArray, List.getElem_cons_zero, List.getElem_cons_succ]
          refine wpAnyH_take (i := 4) (v := ?_) rfl (by kernel_rfl) (by kernel_rfl) (by kernel_rfl) (fun _ _ _ h => h) (Or.inl ⟨by rfl, ?_⟩) hHeld ?_
          rotate_left
          · intro u hSu
            obtain x0 := hSu
            go_simp
            try with_reducible rfl
          try simp only [Act.put, List.setIfInBounds_toArray, List.set_cons_zero, List.set_cons_succ, List.getElem_toArray, List.getElem_cons_zero, List.getElem_cons_succ]
          refine wpAnyH_take (i := 7) (v := ?_) rfl (by kernel_rfl) (by kernel_rfl) (by kernel_rfl) (fun _ _ _ h => h) (Or.inl ⟨by rfl, ?_⟩) hHeld ?_
          rotate_left
          · intro u hSu
            obtain x0 := hSu
            go_simp
            try with_reducible rfl
          try simp only [Act.put, List.setIfInBounds_toArray, List.set_cons_zero, List.set_cons_succ, List.getElem_toArray, List.getElem_cons_zero, List.getElem_cons_succ]
          refine wpAnyH_take (i := 8) (v := ?_) rfl (by kernel_rfl) (by kernel_rfl) (by kernel_rfl) (fun _ _ _ h => h) (Or.inl ⟨by rfl, ?_⟩) hHeld ?_
          rotate_left
          · intro u hSu
            obtain x0 := hSu
            go_simp
            try with_reducible rfl
          try simp only [Act.put, List.setIfInBounds_toArray, List.set_cons_zero, List.set_cons_succ, List.getElem_toArray, List.getElem_cons_zero, List.getElem_cons_succ]
          refine wpAnyH_take (i := 9) (v := ?_) rfl (by kernel_rfl) (by kernel_rfl) (by kernel_rfl) (fun _ _ _ h => h) (Or.inl ⟨by rfl, ?_⟩) hHeld ?_
          rotate_left
          · intro u hSu
            obtain x0 := hSu
            go_simp
            try with_reducible rfl
          try simp only [Act.put, List.setIfInBounds_toArray, List.set_cons_zero, List.set_cons_succ, List.getElem_toArray, List.getElem_cons_zero, List.getElem_cons_succ]
          refine wpAnyH_take (i := 10) (v := ?_) rfl (by kernel_rfl) (by kernel_rfl) (by kernel_rfl) (fun _ _ _ h => h) (Or.inl ⟨by rfl, ?_⟩) hHeld ?_
          rotate_left
          · intro u hSu
            obtain x0 := hSu
            go_simp
            try with_reducible rfl
          try simp only [Act.put, List.setIfInBounds_toArray, List.set_cons_zero, List.set_cons_succ, List.getElem_toArray, List.getElem_cons_zero, List.getElem_cons_succ]
          refine wpAnyH_take (i := 11) (v := ?_) rfl (by kernel_rfl) (by kernel_rfl) (by kernel_rfl) (fun _ _ _ h => h) (Or.inl ⟨by rfl, ?_⟩) hHeld ?_
          rotate_left
          · intro u hSu
            obtain x0 := hSu
            go_simp
            try with_reducible rfl
          try simp only [Act.put, List.setIfInBounds_toArray, List.set_cons_zero, List.set_cons_succ, List.getElem_toArray, List.getElem_cons_zero, List.getElem_cons_succ]
          refine wpAnyH_take (i := 12) (v := ?_) rfl (by kernel_rfl) (by kernel_rfl) (by kernel_rfl) (fun _ _ _ h => h) (Or.inl ⟨by rfl, ?_⟩) hHeld ?_
          rotate_left
          · intro u hSu
            obtain x0 := hSu
            go_simp
            try with_reducible rfl
          try simp only [Act.put, List.setIfInBounds_toArray, List.set_cons_zero, List.set_cons_succ, List.getElem_toArray, List.getElem_cons_zero, List.getElem_cons_succ]
          obtain ⟨w6, hw6⟩ : ∃ w6, wr.drew = w6 := ⟨_, rfl⟩
          have HB56 : Hid (Below w1.heap.size w1 w6) := Lib.hid (by rw [← hw6]; exact HB.out.drew)
          have HO56 : Hid (OwnK w6 w1.heap.size 57 2 u9 i (prsC (L1.take i))) := Lib.hid (by rw [← hw6]; exact HO.out.up (Below.refl _ _).drew)
          rw [hw6] at hHeld ⊢
          clear hw6
          obtain ⟨w7, hw7⟩ : ∃ w7, w6.alloc (.cells #[.int .u32 (k : Int), .int .i64 s] 57) = w7 := ⟨_, rfl⟩
          have hb7 : Below w6.heap.size w6 w7 := by rw [← hw7]; exact (Below.refl _ _).alloc (Nat.le_refl _) _
          have HB7 : Hid (Below w1.heap.size w1 w7) := Lib.hid (below_all HB56.out hb7)
          have HO7 := Lib.hid (HO56.out.up hb7)
          have HR7 : Hid (RdV w7 w7.heap.size (some ⟨w6.heap.size, 0, none⟩) [.int .u32 (k : Int), .int .i64 s]) := Lib.hid (fun _ => ⟨w6.heap.size, 0, rfl, by rw [← hw7]; simp, fun i hi => by rw [Nat.zero_add, ← hw7]; exact Blk.cell (T := 57) (heap_alloc_new w6 _) i hi⟩)
          clear hb7 HB56 HO56
          refine wpAnyH_ready (rs := [5]) (by kernel_rfl) (by simp) ?_
          refine (AllReadyH.cons rfl (fun K hK => ?_) AllReadyH.nil)
          go_simp
          try rw [hw7]
          refine hK.out _ _ ?_ (fun hHeld2 => ?_)
          · exact HSS.out _ HB7.out
          clear hK K hHeld
          have hHeld := hHeld2
          clear hHeld2
          try simp only [Act.put, List.setIfInBounds_toArray, List.set_cons_zero, List.set_cons_succ, List.getElem_toArray, List.getElem_cons_zero, List.getElem_cons_succ]
          refine wpAnyH_ready (rs := [6]) (by kernel_rfl) (by simp) ?_
          refine (AllReadyH.cons rfl (fun K hK => ?_) AllReadyH.nil)
          (refine stepP w7 (by rfl) (.tmp 67) (.tmp 71) 42 57 (.agg #[.int .u32 0, .int .i64 0]) 2 16 (by rfl) Tryd.underlying42 prInfo rfl (by decide) (by decide) w1.heap.size i 1 1 u9 (prsC (L1.take i)) [.int .u32 (k : Int), .int .i64 s] (some ⟨w6.heap.size, 0, none⟩) (by rfl) HO7.out (by rfl) rfl HR7.out (fun e => by cases e) (fun u hu => by simp only [List.mem_cons, List.not_mem_nil, or_false] at hu; rcases hu with rfl | rfl <;> rfl) (by omega) HB7.out.size ?_; intro v8 w8 ho hg; have HO8 : Hid (OwnK w8 w1.heap.size 57 2 v8 (i + 1) (prsC (L1.take i) ++ [.int .u32 (k : Int), .int .i64 s])) := Lib.hid ho; have HB8 := Lib.hid (below_grown HB7.out hg (fun e he => HO7.out.own e he)); clear ho hg)
          refine hK.out _ _ ?_ (fun hHeld2 => ?_)
          · exact HSS.out _ HB8.out
          clear hK K hHeld
          have hHeld := hHeld2
          clear hHeld2
          try simp only [Act.put, List.setIfInBounds_toArray, List.set_cons_zero, List.set_cons_succ, List.getElem_toArray, List.getElem_cons_zero, List.getElem_cons_succ]
          refine wpAnyH_ready (rs := [13]) (by kernel_rfl) (by simp) ?_
          refine (AllReadyH.cons rfl (fun K hK => ?_) AllReadyH.nil)
          (refine stepP w8 (by rfl) (.tmp 72) (.tmp 78) 42 57 (.agg #[.int .u32 0, .int .i64 0]) 2 16 (by rfl) Tryd.underlying42 prInfo rfl (by decide) (by decide) w1.heap.size (i + 1) (n1 - i) cX v8 _ (prsC (L1.drop i)) AX (by rfl) HO8.out (by rfl) (by rw [prsC_len, List.length_drop, HN1.out]) (HAX.out w8 HB8.out) HAN.out (prsC_one _) (by omega) HB8.out.size ?_; intro v9 w9 ho hg; have HO9 : Hid (OwnK w9 w1.heap.size 57 2 v9 (i + 1 + (n1 - i)) (prsC (insL L1 k s))) := Lib.hid (by rw [HIN.out, prsC_app, show prsC ((k, s) :: L1.drop i) = [.int .u32 (k : Int), .int .i64 s] ++ prsC (L1.drop i) from rfl, ← List.append_assoc]; exact ho); have HB9 := Lib.hid (below_grown HB8.out hg (fun e he => HO8.out.own e he)); have f9 := (HC1.out.up HB9.out).b.free 0; have k9 := (HC1.out.up HB9.out).cells.1; clear ho hg)
          refine hK.out _ _ ?_ (fun hHeld2 => ?_)
          · exact HSS.out _ HB9.out
          clear hK K hHeld
          have hHeld := hHeld2
          clear hHeld2
          try simp only [Act.put, List.setIfInBounds_toArray, List.set_cons_zero, List.set_cons_succ, List.getElem_toArray, List.getElem_cons_zero, List.getElem_cons_succ]
          refine wpAnyH_done (by kernel_rfl) ?_ _
          show wpAny _ _ _ _ 3 _ _ _
          clear hHeld
          refine wpAny_take (i := 14) (v := ?_) rfl (by kernel_rfl) (by kernel_rfl) (by kernel_rfl) (fun _ _ _ h => h) (Or.inl ⟨by rfl, ?_⟩) ?_
          rotate_left
          · intro u
            go_simp
            try with_reducible rfl
          try simp only [Act.put, List.setIfInBounds_toArray, List.set_cons_zero, List.set_cons_succ, List.getElem_toArray, List.getElem_cons_zero, List.getElem_cons_succ]
          refine wpAny_take (i := 15) (v := ?_) rfl (by kernel_rfl) (by kernel_rfl) (by kernel_rfl) (fun _ _ _ h => h) (Or.inl ⟨by rfl, ?_⟩) ?_
          rotate_left
          · intro u
            go_simp
            try with_reducible rfl
          try simp only [Act.put, List.setIfInBounds_toArray, List.set_cons_zero, List.set_cons_succ, List.getElem_toArray, List.getElem_cons_zero, List.getElem_cons_succ]
          have hnew := HC1.out.newL HB9.out HO9.out (Nat.le_refl _) HLN.out
          have HNW := Lib.hid hnew.1
          have HKW := Lib.hid (HK1.out.and hnew.2)
          clear hnew
          obtain ⟨A9, c9, rfl, _, _, _⟩ := HO9.out.form
          refine wpAny_ready (rs := [16]) (by kernel_rfl) (by simp) ?_
          refine AllReady.cons rfl (fun K hK => ?_) AllReady.nil
          go_simp
          refine hK _ _ ?_
          clear hK K
          refine wpAny_done (by kernel_rfl) ?_ _
          go_wp2_with fail
          go_ret
          exact HE.out _ _ HNW.out HKW.out
      · have HIN : Hid (insL L1 k s = L1.take i ++ (k, s) :: L1.drop i) := Lib.hid (ins_split (by have := HN1.out; omega) HLOW.out (fun h => by have := HN1.out; omega))
        have hg : decide ((i : Int) < (n1 : Int)) = false := by simp; omega
        clear HLOW
        go_wp2_with fail
        obtain ⟨AX, cX, hs1, hs2, han, hax⟩ := HOR.out.tail hi HN1.out
        have HAN := Lib.hid han
        have HAX := Lib.hid hax
        have HLN : Hid ((insL L1 k s).length = i + 1 + (n1 - i)) := Lib.hid (by rw [insL_len, HN1.out]; omega)
        have HE := Lib.hid (fun w' v' => HE2.out w' v')
        clear han hax
        refine wp_region_parts (S := fun u => u.cell? ⟨rb, 0, none⟩ = some (.slice A1 n1 c1)) 14 3 _ (by kernel_rfl) (by kernel_rfl) (by rfl) (by simp only [List.take_succ_cons, List.take_zero]; rfl) ?_ (fun hHeld => ?_)
        · exact HSS.out _ HB.out.drew
        refine wpAnyH_take (i := 0) (v := ?_) rfl (by kernel_rfl) (by kernel_rfl) (by kernel_rfl) (fun _ _ _ h => h) (Or.inl ⟨by rfl, ?_⟩) hHeld ?_
        rotate_left
        · intro u hSu
          obtain x0 := hSu
          go_simp
          try with_reducible rfl
        try simp only [Act.put, List.setIfInBounds_toArray, List.set_cons_zero, List.set_cons_succ, List.getElem_toArray, List.getElem_cons_zero, List.getElem_cons_succ]
        refine wpAnyH_take (i := 1) (v := ?_) rfl (by kernel_rfl) (by kernel_rfl) (by kernel_rfl) (fun _ _ _ h => h) (Or.inl ⟨by rfl, ?_⟩) hHeld ?_
        rotate_left
        · intro u hSu
          obtain x0 := hSu
          go_simp
          try with_reducible rfl
        try simp only [Act.put, List.setIfInBounds_toArray, List.set_cons_zero, List.set_cons_succ, List.getElem_toArray, List.getElem_cons_zero, List.getElem_cons_succ]
        refine wpAnyH_take (i := 2) (v := ?_) rfl (by kernel_rfl) (by kernel_rfl) (by kernel_rfl) (fun _ _ _ h => h) (Or.inl ⟨by rfl, ?_⟩) hHeld ?_
        rotate_left
        · intro u hSu
          obtain x0 := hSu
          go_simp
          try with_reducible rfl
        try simp only [Act.put, List.setIfInBounds_toArray, List.set_cons_zero, List.set_cons_succ, List.getElem_toArray, List.getElem_cons_zero, List.getElem_cons_succ]
        refine wpAnyH_take (i := 3) (v := ?_) rfl (by kernel_rfl) (by kernel_rfl) (by kernel_rfl) (fun _ _ _ h => h) (Or.inl ⟨by rfl, ?_⟩) hHeld ?_
        rotate_left
        · intro u hSu
          obtain x0 := hSu
          go_simp
          try with_reducible rfl
        try simp only [Act.put, List.setIfInBounds_toArray, List.set_cons_zero, List.set_cons_succ, List.getElem_toArray, List.getElem_cons_zero, List.getElem_cons_succ]
        refine wpAnyH_take (i := 4) (v := ?_) rfl (by kernel_rfl) (by kernel_rfl) (by kernel_rfl) (fun _ _ _ h => h) (Or.inl ⟨by rfl, ?_⟩) hHeld ?_
        rotate_left
        · intro u hSu
          obtain x0 := hSu
          go_simp
          try with_reducible rfl
        try simp only [Act.put, List.setIfInBounds_toArray, List.set_cons_zero, List.set_cons_succ, List.getElem_toArray, List.getElem_cons_zero, List.getElem_cons_succ]
        refine wpAnyH_take (i := 7) (v := ?_) rfl (by kernel_rfl) (by kernel_rfl) (by kernel_rfl) (fun _ _ _ h => h) (Or.inl ⟨by rfl, ?_⟩) hHeld ?_
        rotate_left
        · intro u hSu
          obtain x0 := hSu
          go_simp
          try with_reducible rfl
        try simp only [Act.put, List.setIfInBounds_toArray, List.set_cons_zero, List.set_cons_succ, List.getElem_toArray, List.getElem_cons_zero, List.getElem_cons_succ]
        refine wpAnyH_take (i := 8) (v := ?_) rfl (by kernel_rfl) (by kernel_rfl) (by kernel_rfl) (fun _ _ _ h => h) (Or.inl ⟨by rfl, ?_⟩) hHeld ?_
        rotate_left
        · intro u hSu
          obtain x0 := hSu
          go_simp
          try with_reducible rfl
        try simp only [Act.put, List.setIfInBounds_toArray, List.set_cons_zero, List.set_cons_succ, List.getElem_toArray, List.getElem_cons_zero, List.getElem_cons_succ]
        refine wpAnyH_take (i := 9) (v := ?_) rfl (by kernel_rfl) (by kernel_rfl) (by kernel_rfl) (fun _ _ _ h => h) (Or.inl ⟨by rfl, ?_⟩) hHeld ?_
        rotate_left
        · intro u hSu
          obtain x0 := hSu
          go_simp
          try with_reducible rfl
        try simp only [Act.put, List.setIfInBounds_toArray, List.set_cons_zero, List.set_cons_succ, List.getElem_toArray, List.getElem_cons_zero, List.getElem_cons_succ]
        refine wpAnyH_take (i := 10) (v := ?_) rfl (by kernel_rfl) (by kernel_rfl) (by kernel_rfl) (fun _ _ _ h => h) (Or.inl ⟨by rfl, ?_⟩) hHeld ?_
        rotate_left
        · intro u hSu
          obtain x0 := hSu
          go_simp
          try with_reducible rfl
        try simp only [Act.put, List.setIfInBounds_toArray, List.set_cons_zero, List.set_cons_succ, List.getElem_toArray, List.getElem_cons_zero, List.getElem_cons_succ]
        refine wpAnyH_take (i := 11) (v := ?_) rfl (by kernel_rfl) (by kernel_rfl) (by kernel_rfl) (fun _ _ _ h => h) (Or.inl ⟨by rfl, ?_⟩) hHeld ?_
        rotate_left
        · intro u hSu
          obtain x0 := hSu
          go_simp
          try with_reducible rfl
        try simp only [Act.put, List.setIfInBounds_toArray, List.set_cons_zero, List.set_cons_succ, List.getElem_toArray, List.getElem_cons_zero, List.getElem_cons_succ]
        refine wpAnyH_take (i := 12) (v := ?_) rfl (by kernel_rfl) (by kernel_rfl) (by kernel_rfl) (fun _ _ _ h => h) (Or.inl ⟨by rfl, ?_⟩) hHeld ?_
        rotate_left
        · intro u hSu
          obtain x0 := hSu
          go_simp
          try with_reducible rfl
        try simp only [Act.put, List.setIfInBounds_toArray, List.set_cons_zero, List.set_cons_succ, List.getElem_toArray, List.getElem_cons_zero, List.getElem_cons_succ]
        obtain ⟨w6, hw6⟩ : ∃ w6, wr.drew = w6 := ⟨_, rfl⟩
        have HB56 : Hid (Below w1.heap.size w1 w6) := Lib.hid (by rw [← hw6]; exact HB.out.drew)
        have HO56 : Hid (OwnK w6 w1.heap.size 57 2 u9 i (prsC (L1.take i))) := Lib.hid (by rw [← hw6]; exact HO.out.up (Below.refl _ _).drew)
        rw [hw6] at hHeld ⊢
        clear hw6
        obtain ⟨w7, hw7⟩ : ∃ w7, w6.alloc (.cells #[.int .u32 (k : Int), .int .i64 s] 57) = w7 := ⟨_, rfl⟩
        have hb7 : Below w6.heap.size w6 w7 := by rw [← hw7]; exact (Below.refl _ _).alloc (Nat.le_refl _) _
        have HB7 : Hid (Below w1.heap.size w1 w7) := Lib.hid (below_all HB56.out hb7)
        have HO7 := Lib.hid (HO56.out.up hb7)
        have HR7 : Hid (RdV w7 w7.heap.size (some ⟨w6.heap.size, 0, none⟩) [.int .u32 (k : Int), .int .i64 s]) := Lib.hid (fun _ => ⟨w6.heap.size, 0, rfl, by rw [← hw7]; simp, fun i hi => by rw [Nat.zero_add, ← hw7]; exact Blk.cell (T := 57) (heap_alloc_new w6 _) i hi⟩)
        clear hb7 HB56 HO56
        refine wpAnyH_ready (rs := [5]) (by kernel_rfl) (by simp) ?_
        refine (AllReadyH.cons rfl (fun K hK => ?_) AllReadyH.nil)
        go_simp
        try rw [hw7]
        refine hK.out _ _ ?_ (fun hHeld2 => ?_)
        · exact HSS.out _ HB7.out
        clear hK K hHeld
        have hHeld := hHeld2
        clear hHeld2
        try simp only [Act.put, List.setIfInBounds_toArray, List.set_cons_zero, List.set_cons_succ, List.getElem_toArray, List.getElem_cons_zero, List.getElem_cons_succ]
        refine wpAnyH_ready (rs := [6]) (by kernel_rfl) (by simp) ?_
        refine (AllReadyH.cons rfl (fun K hK => ?_) AllReadyH.nil)
        (refine stepP w7 (by rfl) (.tmp 67) (.tmp 71) 42 57 (.agg #[.int .u32 0, .int .i64 0]) 2 16 (by rfl) Tryd.underlying42 prInfo rfl (by decide) (by decide) w1.heap.size i 1 1 u9 (prsC (L1.take i)) [.int .u32 (k : Int), .int .i64 s] (some ⟨w6.heap.size, 0, none⟩) (by rfl) HO7.out (by rfl) rfl HR7.out (fun e => by cases e) (fun u hu => by simp only [List.mem_cons, List.not_mem_nil, or_false] at hu; rcases hu with rfl | rfl <;> rfl) (by omega) HB7.out.size ?_; intro v8 w8 ho hg; have HO8 : Hid (OwnK w8 w1.heap.size 57 2 v8 (i + 1) (prsC (L1.take i) ++ [.int .u32 (k : Int), .int .i64 s])) := Lib.hid ho; have HB8 := Lib.hid (below_grown HB7.out hg (fun e he => HO7.out.own e he)); clear ho hg)
        refine hK.out _ _ ?_ (fun hHeld2 => ?_)
        · exact HSS.out _ HB8.out
        clear hK K hHeld
        have hHeld := hHeld2
        clear hHeld2
        try simp only [Act.put, List.setIfInBounds_toArray, List.set_cons_zero, List.set_cons_succ, List.getElem_toArray, List.getElem_cons_zero, List.getElem_cons_succ]
        refine wpAnyH_ready (rs := [13]) (by kernel_rfl) (by simp) ?_
        refine (AllReadyH.cons rfl (fun K hK => ?_) AllReadyH.nil)
        (refine stepP w8 (by rfl) (.tmp 72) (.tmp 78) 42 57 (.agg #[.int .u32 0, .int .i64 0]) 2 16 (by rfl) Tryd.underlying42 prInfo rfl (by decide) (by decide) w1.heap.size (i + 1) (n1 - i) cX v8 _ (prsC (L1.drop i)) AX (by rfl) HO8.out (by rfl) (by rw [prsC_len, List.length_drop, HN1.out]) (HAX.out w8 HB8.out) HAN.out (prsC_one _) (by omega) HB8.out.size ?_; intro v9 w9 ho hg; have HO9 : Hid (OwnK w9 w1.heap.size 57 2 v9 (i + 1 + (n1 - i)) (prsC (insL L1 k s))) := Lib.hid (by rw [HIN.out, prsC_app, show prsC ((k, s) :: L1.drop i) = [.int .u32 (k : Int), .int .i64 s] ++ prsC (L1.drop i) from rfl, ← List.append_assoc]; exact ho); have HB9 := Lib.hid (below_grown HB8.out hg (fun e he => HO8.out.own e he)); have f9 := (HC1.out.up HB9.out).b.free 0; have k9 := (HC1.out.up HB9.out).cells.1; clear ho hg)
        refine hK.out _ _ ?_ (fun hHeld2 => ?_)
        · exact HSS.out _ HB9.out
        clear hK K hHeld
        have hHeld := hHeld2
        clear hHeld2
        try simp only [Act.put, List.setIfInBounds_toArray, List.set_cons_zero, List.set_cons_succ, List.getElem_toArray, List.getElem_cons_zero, List.getElem_cons_succ]
        refine wpAnyH_done (by kernel_rfl) ?_ _
        show wpAny _ _ _ _ 3 _ _ _
        clear hHeld
        refine wpAny_take (i := 14) (v := ?_) rfl (by kernel_rfl) (by kernel_rfl) (by kernel_rfl) (fun _ _ _ h => h) (Or.inl ⟨by rfl, ?_⟩) ?_
        rotate_left
        · intro u
          go_simp
          try with_reducible rfl
        try simp only [Act.put, List.setIfInBounds_toArray, List.set_cons_zero, List.set_cons_succ, List.getElem_toArray, List.getElem_cons_zero, List.getElem_cons_succ]
        refine wpAny_take (i := 15) (v := ?_) rfl (by kernel_rfl) (by kernel_rfl) (by kernel_rfl) (fun _ _ _ h => h) (Or.inl ⟨by rfl, ?_⟩) ?_
        rotate_left
        · intro u
          go_simp
          try with_reducible rfl
        try simp only [Act.put, List.setIfInBounds_toArray, List.set_cons_zero, List.set_cons_succ, List.getElem_toArray, List.getElem_cons_zero, List.getElem_cons_succ]
        have hnew := HC1.out.newL HB9.out HO9.out (Nat.le_refl _) HLN.out
        have HNW := Lib.hid hnew.1
        have HKW := Lib.hid (HK1.out.and hnew.2)
        clear hnew
        obtain ⟨A9, c9, rfl, _, _, _⟩ := HO9.out.form
        refine wpAny_ready (rs := [16]) (by kernel_rfl) (by simp) ?_
        refine AllReady.cons rfl (fun K hK => ?_) AllReady.nil
        go_simp
        refine hK _ _ ?_
        clear hK K
        refine wpAny_done (by kernel_rfl) ?_ _
        go_wp2_with fail
        go_ret
        exact HE.out _ _ HNW.out HKW.out
end
end Go.Proofs.YtekaeeckhfghpaaDoor
