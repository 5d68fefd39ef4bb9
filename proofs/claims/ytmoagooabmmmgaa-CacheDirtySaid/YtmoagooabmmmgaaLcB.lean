/-
  The cache in memory: New, Len, Peek, Get, Move, Victim.
-/
import Derived.Test.YtmoagooabmmmgaaLcA
import Derived.Test.YtmoagooabmmmgaaLruMath2
namespace Go.Proofs.Ytmoagooabmmmgaa
open Go.RowKit

theorem caInfo : (Try.prog.info? 33).map (fun i => (i.zero, i.size, i.bytes)) = some (some (.agg #[.int .i64 0, .int .u32 0, .bool false]), 3, 16) := by kernel_rfl
theorem make_ents (m : Nat) (hm : m ≤ 64) : ∃ cs : List Value, cs.length = m * 3 ∧ ∀ w : World, (Instr.makeSlice 41 (.int .i64 (m : Int)) (.int .i64 (m : Int))).run Try.prog w = .ok (.slice (some ⟨w.heap.size, 0, none⟩) m m) (w.alloc (.cells cs.toArray 33)) := by
  obtain ⟨i0, hi, hz0, hz1, hz2⟩ := info_parts caInfo
  refine ⟨(madeCells (Value.agg #[.int .i64 0, .int .u32 0, .bool false]).cells (m * 3)).toList, by simp [size_madeCells], fun w => ?_⟩
  have := run_make (P := Try.prog) w 41 33 i0 (.agg #[.int .i64 0, .int .u32 0, .bool false]) Try.underlying41 hi hz0 .i64 .i64 (m : Int) (m : Int) (by omega) (by omega) (by rw [hz2]; omega) (by omega)
  rw [Int.toNat_natCast, hz1] at this
  rw [this, Array.toArray_toList]
/-- What New answers. -/
def LcNew (n : Int) (w : World) (r : Ending) (w' : World) : Prop :=
  Below w.heap.size w w' ∧ if 1 ≤ n ∧ n ≤ 64 then ∃ cb kb ib eb, w.heap.size ≤ kb ∧ r = .returned (.tuple #[.pointer (some ⟨cb, 0, none⟩), .nilIface]) ∧ LcC w' cb kb ib eb id ⟨[], [], [], n.toNat⟩ else r = .returned (.tuple #[.pointer none, .iface 78 (.int .i64 1)])
set_option maxHeartbeats 1000000 in
theorem lcnew_at (n : Int) (w : World) : Calls Try.prog 6 #[.int .i64 n] w (LcNew n w) := by
  go_enter Try.func6, Try.ntmps6
  go_wp2_with fail
  refine (lnew_at n w).mono ?_
  rintro r w1 ⟨hb, h⟩
  by_cases hnn : 1 ≤ n ∧ n ≤ 64
  · rw [if_pos hnn] at h
    obtain ⟨rfl, hm⟩ := h
    have HB1 := Lib.hid hb
    have HM1 := Lib.hid hm
    have HNN := Lib.hid hnn
    obtain ⟨m, rfl⟩ := Int.eq_ofNat_of_zero_le (show 0 ≤ n by omega)
    have hlt := hm.lt
    clear hb hm hnn
    go_wp2_with fail
    refine (xnew_at (m : Int) w1).mono ?_
    rintro r w2 ⟨hb, h⟩
    rw [if_pos HNN.out] at h
    obtain ⟨rfl, hm⟩ := h
    have HB2 := Lib.hid hb
    have HM2 := Lib.hid hm
    have hlt2 := hm.lt
    obtain ⟨cs, hcl, hmk⟩ := make_ents m (by have := HNN.out; omega)
    have HMK := Lib.hid (hmk w2)
    have hmk2 := hmk w2
    obtain ⟨W3, hW3⟩ : ∃ W3, w2.alloc (.cells cs.toArray 33) = W3 := ⟨_, rfl⟩
    have hs3 : W3.heap.size = w2.heap.size + 1 := by rw [← hW3]; simp
    have h3 : Below w2.heap.size w2 W3 := by rw [← hW3]; exact (Below.refl _ _).alloc (Nat.le_refl _) _
    have hb3 : Blk W3 w2.heap.size 33 cs := by rw [← hW3]; exact heap_alloc_new w2 _
    rw [hW3] at hmk2
    have HE : Hid (LcNew (m : Int) w (.returned (.tuple #[.pointer (some ⟨W3.heap.size, 0, none⟩), .nilIface])) (W3.alloc (.cells #[.pointer (some ⟨w.heap.size, 0, none⟩), .pointer (some ⟨w1.heap.size, 0, none⟩), .slice (some ⟨w2.heap.size, 0, none⟩) m m] 64))) := Lib.hid (by
      have h4 : Below W3.heap.size W3 (W3.alloc (.cells #[.pointer (some ⟨w.heap.size, 0, none⟩), .pointer (some ⟨w1.heap.size, 0, none⟩), .slice (some ⟨w2.heap.size, 0, none⟩) m m] 64)) := (Below.refl _ _).alloc (Nat.le_refl _) _
      have h24 := below_all h3 h4
      refine ⟨below_all HB1.out (below_all HB2.out h24), ?_⟩
      rw [if_pos HNN.out]
      refine ⟨_, _, _, _, Nat.le_refl _, rfl, heap_alloc_new W3 _, ?_, ?_, ⟨cs, hb3.up h4 (by omega), hcl, fun e he => (by cases he)⟩, ⟨by omega, by omega, by omega⟩, ⟨List.Pairwise.nil, fun e he => (by cases he), List.nodup_nil, fun x => by simp, by simp, ?_, ?_⟩⟩
      · exact ((HM1.out.up HB2.out).up h24)
      · exact HM2.out.up h24
      · have := HNN.out
        show 1 ≤ (m : Int).toNat
        omega
      · have := HNN.out
        show (m : Int).toNat ≤ 64
        omega)
    rw [hs3] at HE
    clear hb hm hmk hcl h3 hb3 hW3 HB1 HM1 HB2 HM2 HMK
    go_wp2_with fail
    go_ret2
    exact HE.out
  · rw [if_neg hnn] at h
    obtain rfl := h
    have HE : Hid (LcNew n w (.returned (.tuple #[.pointer none, .iface 78 (.int .i64 1)])) w1) := Lib.hid ⟨hb, by rw [if_neg hnn]⟩
    clear hb hnn
    go_wp2_with fail
    go_ret2
    exact HE.out
section
variable {w : World} {cb kb ib eb : Nat} {σ : Nat → Nat} {S : CaS}
theorem lclen_at (h : LcC w cb kb ib eb σ S) : Calls Try.prog 18 #[.pointer (some ⟨cb, 0, none⟩)] w (IntIs (S.E.length : Int) w) := by
  have HX := Lib.hid (xlen_at h.x)
  have hl : (ixs σ S).L.length = S.E.length := prsE_len σ S.E
  rw [hl] at HX
  have g1 := h.cells.2.1
  clear h hl
  generalize S.E.length = n at *
  go_enter Try.func18, Try.ntmps18
  go_wp2_with fail
  refine HX.out.mono ?_
  rintro r w' ⟨rfl, rfl⟩
  go_wp2_with fail
  go_ret
  exact ⟨rfl, rfl⟩
/-- What Peek and Get tell. -/
def LPeekV (S : CaS) (x : Int) : Value := .tuple #[.int .u32 (S.addr x : Int), .bool (S.has x)]
def LPeekIs (S : CaS) (x : Int) (w : World) (r : Ending) (w' : World) : Prop := r = .returned (LPeekV S x) ∧ Below w.heap.size w w'
theorem has_at {S : CaS} {x : Int} (h : S.has x = true) : ∃ e ∈ S.E, (e.b : Int) = x ∧ atE S.E x = some e ∧ x.toNat = e.b := by
  obtain ⟨e, he⟩ := Option.isSome_iff_exists.1 h
  obtain ⟨hm, hb⟩ := atE_some he
  exact ⟨e, hm, hb, he, by omega⟩
theorem slotOf_yes {e : CE} {x : Int} (h : S.has x = true) (he : x.toNat = e.b) : slotOf σ S x = σ e.b := by
  unfold slotOf
  rw [if_pos h, he]
theorem slotOf_no {x : Int} (h : S.has x = false) : slotOf σ S x = 0 := by
  unfold slotOf
  rw [h]
  rfl
set_option maxHeartbeats 1000000 in
theorem lcpeek_at (x : Int) (h : LcC w cb kb ib eb σ S) : Calls Try.prog 9 #[.pointer (some ⟨cb, 0, none⟩), .int .i64 x] w (LPeekIs S x w) := by
  have HF := Lib.hid (lfindc_at x h)
  cases hh : S.has x with
  | false =>
    have HV : Hid (LPeekV S x = .tuple #[.int .u32 0, .bool false]) := Lib.hid (by unfold LPeekV; rw [hh, (CaS.addr_none hh).2.1]; rfl)
    unfold FindIs at HF
    rw [slotOf_no hh, hh] at HF
    clear h hh
    go_enter Try.func9, Try.ntmps9
    go_wp2_with fail
    refine HF.out.mono ?_
    rintro r w' ⟨rfl, hb⟩
    have HB := Lib.hid hb
    clear hb
    go_wp2_with fail
    go_ret2
    exact ⟨by rw [HV.out]; rfl, HB.out⟩
  | true =>
    obtain ⟨e, he, hb, ha, hn⟩ := has_at hh
    have HV : Hid (LPeekV S x = .tuple #[.int .u32 (e.a : Int), .bool true]) := Lib.hid (by unfold LPeekV; rw [(CaS.addr_of ha).1, hh])
    unfold FindIs at HF
    rw [slotOf_yes hh hn, hh] at HF
    have HH := Lib.hid h
    obtain ⟨hlt, _⟩ := h.slot he
    obtain ⟨s, hs⟩ : ∃ s, σ e.b = s := ⟨_, rfl⟩
    have HC : Hid (∀ u, LcC u cb kb ib eb σ S → u.cell? ⟨cb, 2, none⟩ = some (.slice (some ⟨eb, 0, none⟩) S.n S.n) ∧ u.cell? ⟨eb, s * 3 + 1, none⟩ = some (.int .u32 (e.a : Int))) := Lib.hid (fun u hu => ⟨hu.cells.2.2, by rw [← hs]; exact (hu.slot he).2.2.1⟩)
    rw [hs] at HF hlt
    have hn64 := h.wf.n64
    obtain ⟨n, hn'⟩ : ∃ n, S.n = n := ⟨_, rfl⟩
    rw [hn'] at hlt HC hn64
    clear h hh hb ha hn hs hn' he
    generalize e.a = y at *
    go_enter Try.func9, Try.ntmps9
    go_wp2_with fail
    refine HF.out.mono ?_
    rintro r w' ⟨rfl, hb⟩
    have HB := Lib.hid hb
    obtain ⟨c2, c1⟩ := HC.out _ (HH.out.up hb)
    clear hb HH HC HF
    go_wp2_with fail
    go_ret2
    exact ⟨by rw [HV.out]; rfl, HB.out⟩
theorem LcTo.of_below {w1 : World} {v : Value} {S' : CaS} {r : Ending} {w' : World} (hb : Below w.heap.size w w1) (h : LcTo cb kb ib eb v S' w1 r w') : LcTo cb kb ib eb v S' w r w' := ⟨h.1, h.2.1, (Kept.of_below hb).and h.2.2⟩
/-- The ranking is touched. -/
theorem LcC.use {w' : World} {e : CE} {x : Int} (h : LcC w cb kb ib eb σ S) (hh : S.has x = true) (he : e ∈ S.E) (hb : (e.b : Int) = x) (hm : RkM w' kb ((S.rk.map σ).touS (σ e.b : Int))) (hk : Kept (fun k => k = kb) w w') : LcC w' cb kb ib eb σ (S.useS x) := by
  have hinj : ∀ y ∈ S.rk.T ++ S.rk.K, σ y = σ e.b → y = e.b := CaS.inj_rk h.wf h.inj ⟨_, he, rfl⟩
  have hu : S.useS x = S.setR (S.rk.touS (e.b : Int)) := by
    unfold CaS.useS
    rw [hh, hb]
    rfl
  have hw := CaS.use_wf h.wf x
  rw [hu] at hw ⊢
  rw [RkS.map_touS hinj] at hm
  exact h.rank hk hm (RkS.n_tou _ _) hw
set_option maxHeartbeats 1000000 in
theorem lcget_at (x : Int) (h : LcC w cb kb ib eb σ S) : Calls Try.prog 24 #[.pointer (some ⟨cb, 0, none⟩), .int .i64 x] w (LcTo cb kb ib eb (LPeekV S x) (S.useS x) w) := by
  have HF := Lib.hid (lfindc_at x h)
  have HH := Lib.hid h
  cases hh : S.has x with
  | false =>
    have HE : Hid (∀ w', Below w.heap.size w w' → LcTo cb kb ib eb (LPeekV S x) (S.useS x) w (.returned (.tuple #[.int .u32 0, .bool false])) w') := Lib.hid (fun w' hb => by
      have hs : S.useS x = S := by unfold CaS.useS; rw [hh]; rfl
      rw [hs]
      exact ⟨by unfold LPeekV; rw [hh, (CaS.addr_none hh).2.1]; rfl, ⟨σ, h.up hb⟩, Kept.of_below hb⟩)
    unfold FindIs at HF
    rw [slotOf_no hh, hh] at HF
    clear h hh
    go_enter Try.func24, Try.ntmps24
    go_wp2_with fail
    refine HF.out.mono ?_
    rintro r w' ⟨rfl, hb⟩
    have HB := Lib.hid hb
    clear hb
    go_wp2_with fail
    go_ret2
    exact HE.out _ HB.out
  | true =>
    obtain ⟨e, he, hb, ha, hn⟩ := has_at hh
    unfold FindIs at HF
    rw [slotOf_yes hh hn, hh] at HF
    obtain ⟨hlt, _⟩ := h.slot he
    have hne := h.ne
    have HE : Hid (∀ w1, Below w.heap.size w w1 → ∀ w', RkM w' kb ((S.rk.map σ).touS (σ e.b : Int)) → Kept (fun k => k = kb) w1 w' → LcTo cb kb ib eb (LPeekV S x) (S.useS x) w (.returned (.tuple #[.int .u32 (e.a : Int), .bool true])) w' ∧ w'.cell? ⟨cb, 2, none⟩ = some (.slice (some ⟨eb, 0, none⟩) S.n S.n) ∧ w'.cell? ⟨eb, σ e.b * 3 + 1, none⟩ = some (.int .u32 (e.a : Int))) := Lib.hid (fun w1 hb1 w' hm hk => by
      have h1 := h.up hb1
      have h2 := h1.use hh he hb hm hk
      refine ⟨⟨by unfold LPeekV; rw [(CaS.addr_of ha).1, hh], ⟨σ, h2⟩, (Kept.of_below hb1).and (hk.mono (fun k _ e => .inl e))⟩, hk.cell h1.cells.2.2 (show ¬ cb = kb by omega), hk.cell (h1.slot he).2.2.1 (show ¬ eb = kb by omega)⟩)
    obtain ⟨s, hs⟩ : ∃ s, σ e.b = s := ⟨_, rfl⟩
    rw [hs] at HF hlt HE
    have hn64 := h.wf.n64
    obtain ⟨n, hn'⟩ : ∃ n, S.n = n := ⟨_, rfl⟩
    rw [hn'] at hlt HE hn64
    clear h hh hb ha hn hs hn' he hne
    generalize e.a = y at *
    generalize LPeekV S x = PV at *
    generalize S.useS x = S' at *
    go_enter Try.func24, Try.ntmps24
    go_wp2_with fail
    refine HF.out.mono ?_
    rintro r w1 ⟨rfl, hb⟩
    have HB := Lib.hid hb
    have c0 := (HH.out.up hb).cells.1
    have HT := Lib.hid (ltouch_at (s : Int) (HH.out.up hb).k)
    clear hb HH HF
    go_wp2_with fail
    refine HT.out.mono ?_
    rintro r w2 ⟨rfl, hm, hk⟩
    obtain ⟨h1, c2, c1⟩ := HE.out _ HB.out _ hm hk
    have HR := Lib.hid h1
    clear hm hk h1 HE HT HB c0
    go_wp2_with fail
    go_ret2
    exact HR.out
set_option maxHeartbeats 1000000 in
theorem lcmove_at (x : Int) (y : Nat) (h : LcC w cb kb ib eb σ S) : Calls Try.prog 19 #[.pointer (some ⟨cb, 0, none⟩), .int .i64 x, .int .u32 (y : Int)] w (LcTo cb kb ib eb (.bool (S.has x)) (S.moveS x y) w) := by
  have HF := Lib.hid (lfindc_at x h)
  have HH := Lib.hid h
  cases hh : S.has x with
  | false =>
    have HE : Hid (∀ w', Below w.heap.size w w' → LcTo cb kb ib eb (.bool false) (S.moveS x y) w (.returned (.bool false)) w') := Lib.hid (fun w' hb => by
      have hs : S.moveS x y = S := by
        unfold CaS.moveS setE
        have : S.E.map (fun e => if (e.b : Int) = x then { e with a := y } else e) = S.E := by
          conv => rhs; rw [← List.map_id S.E]
          refine List.map_congr_left fun e he => ?_
          rw [if_neg (CaS.has_no hh e he)]
          rfl
        rw [this]
      rw [hs]
      exact ⟨rfl, ⟨σ, h.up hb⟩, Kept.of_below hb⟩)
    unfold FindIs at HF
    rw [slotOf_no hh, hh] at HF
    clear h hh
    go_enter Try.func19, Try.ntmps19
    go_wp2_with fail
    refine HF.out.mono ?_
    rintro r w' ⟨rfl, hb⟩
    have HB := Lib.hid hb
    clear hb
    go_wp2_with fail
    go_ret
    exact HE.out _ HB.out
  | true =>
    obtain ⟨e, he, hb, ha, hn⟩ := has_at hh
    unfold FindIs at HF
    rw [slotOf_yes hh hn, hh] at HF
    obtain ⟨hlt, _⟩ := h.slot he
    have HE : Hid (∀ w1, Below w.heap.size w w1 → LcTo cb kb ib eb (.bool true) (S.moveS x y) w (.returned (.bool true)) (w1.setCell ⟨eb, σ e.b * 3 + 1, none⟩ (.int .u32 (y : Int)))) := Lib.hid (fun w1 hb1 => by
      have h1 := h.up hb1
      obtain ⟨cs, hbk, hl, hc⟩ := h1.e
      have hk := kept_put w1 eb (σ e.b * 3 + 1) (.int .u32 (y : Int))
      have hs := hc.set1 (y := y) (b := e.b) (fun z hz e2 => h1.inj z hz e he e2) ⟨e, he, rfl⟩
      rw [hb] at hs
      exact ⟨rfl, ⟨σ, h1.entries hk (hbk.put _ _) (by simpa using hl) hs (setE_b x (fun _ => rfl))⟩, (Kept.of_below hb1).and (hk.mono (fun k _ e => .inr (.inr e)))⟩)
    obtain ⟨s, hs⟩ : ∃ s, σ e.b = s := ⟨_, rfl⟩
    have HC : Hid (∀ u, LcC u cb kb ib eb σ S → u.cell? ⟨cb, 2, none⟩ = some (.slice (some ⟨eb, 0, none⟩) S.n S.n) ∧ u.cell? ⟨eb, s * 3 + 1, none⟩ = some (.int .u32 (e.a : Int)) ∧ u.frozen? ⟨eb, s * 3 + 1, none⟩ = false) := Lib.hid (fun u hu => ⟨hu.cells.2.2, by rw [← hs]; exact (hu.slot he).2.2.1, hu.free _⟩)
    rw [hs] at HF hlt HE
    have hn64 := h.wf.n64
    obtain ⟨n, hn'⟩ : ∃ n, S.n = n := ⟨_, rfl⟩
    rw [hn'] at hlt HC hn64
    clear h hh hb ha hn hs hn' he
    generalize e.a = y0 at *
    generalize S.moveS x y = S' at *
    go_enter Try.func19, Try.ntmps19
    go_wp2_with fail
    refine HF.out.mono ?_
    rintro r w1 ⟨rfl, hb⟩
    have HB := Lib.hid hb
    obtain ⟨c2, c1, cf⟩ := HC.out _ (HH.out.up hb)
    clear hb HH HC HF
    go_wp2_with fail
    go_ret
    exact HE.out _ HB.out
end
end Go.Proofs.Ytmoagooabmmmgaa
