/-
  The document's set in memory: New, Live, Mark, Unmark, Of, Bare.
-/
import Derived.Test.YtajccmkdfmpapaaDoorVaE
import Derived.Test.YtajccmkdfmpapaaDoorGvR
namespace Go.Proofs.YtajccmkdfmpapaaDoor
open Go.RowKit

theorem aC_one (L : List Nat) : ∀ u ∈ aC L, u.oneCell' = true := by
  intro u hu
  obtain ⟨e, _, rfl⟩ := List.mem_map.1 hu
  rfl
theorem aC_app (A B : List Nat) : aC (A ++ B) = aC A ++ aC B := by simp [aC]
/-- Block rs is the document's set S, whose row lies behind. -/
structure RvC (w : World) (rs : Nat) (v : Value) (S : VaS) : Prop where
  b : Blk w rs 44 [.int .i64 S.z, .int .i64 S.p, .int .i64 S.b, v]
  r : OwnK w (rs + 1) 25 1 v S.L.length (aC S.L)
def RvM (w : World) (rs : Nat) (S : VaS) : Prop := (∃ v, RvC w rs v S) ∧ S.WF
section
variable {w w' : World} {rs : Nat} {v : Value} {S : VaS} {F : Nat → Prop}
theorem RvC.up (h : RvC w rs v S) (hb : Below w.heap.size w w') : RvC w' rs v S := ⟨h.b.up hb (lt_of_block h.b), h.r.up hb⟩
theorem RvC.cells (h : RvC w rs v S) : w.cell? ⟨rs, 0, none⟩ = some (.int .i64 S.z) ∧ w.cell? ⟨rs, 1, none⟩ = some (.int .i64 S.p) ∧ w.cell? ⟨rs, 2, none⟩ = some (.int .i64 S.b) ∧ w.cell? ⟨rs, 3, none⟩ = some v := ⟨h.b.cell 0 (by simp), h.b.cell 1 (by simp), h.b.cell 2 (by simp), h.b.cell 3 (by simp)⟩
theorem RvM.up (h : RvM w rs S) (hb : Below w.heap.size w w') : RvM w' rs S := by
  obtain ⟨⟨v, hc⟩, hw⟩ := h
  exact ⟨⟨v, hc.up hb⟩, hw⟩
theorem RvM.keep (h : RvM w rs S) (hk : Kept F w w') (hF : ∀ k, F k → k < rs) : RvM w' rs S := by
  obtain ⟨⟨v, h1, h2⟩, hw⟩ := h
  exact ⟨⟨v, hk.blk h1 (fun e => by have := hF _ e; omega), h2.keep hk (fun g hg e => by have := hF _ e; omega)⟩, hw⟩
theorem RvM.lt (h : RvM w rs S) : rs < w.heap.size := by
  obtain ⟨⟨v, hc⟩, _⟩ := h
  exact lt_of_block hc.b
/-- A new row is laid in. -/
theorem RvC.lay {w1 : World} {S' : VaS} {v' : Value} (h : RvC w rs v S) (hb : Below w.heap.size w w1) (ho : OwnK w1 w.heap.size 25 1 v' S'.L.length (aC S'.L)) (hz : S'.z = S.z) (hp : S'.p = S.p) (hb' : S'.b = S.b) : RvC (w1.setCell ⟨rs, 3, none⟩ v') rs v' S' ∧ Kept (fun k => k = rs) w (w1.setCell ⟨rs, 3, none⟩ v') := by
  have hlt := lt_of_block h.b
  have hk : Kept (fun k => k = rs) w1 (w1.setCell ⟨rs, 3, none⟩ v') := kept_put _ _ _ _
  refine ⟨⟨?_, ?_⟩, (Kept.of_below hb).and hk⟩
  · have := ((h.up hb).b).put 3 v'
    rw [hz, hp, hb']
    simpa using this
  · exact (ho.keep hk (fun g hg e => by omega)).le (by omega)
end
def RvTo (rs : Nat) (b : Bool) (S' : VaS) (w : World) (r : Ending) (w' : World) : Prop := r = .returned (.bool b) ∧ RvM w' rs S' ∧ Kept (fun k => k = rs) w w'
def RvNew (z p b : Int) (w : World) (r : Ending) (w' : World) : Prop :=
  Below w.heap.size w w' ∧ if rightB z p b = true then ∃ rs, w.heap.size ≤ rs ∧ r = .returned (.tuple #[.pointer (some ⟨rs, 0, none⟩), .int .i64 0]) ∧ RvM w' rs ⟨z, p, b, []⟩ else r = .returned (.tuple #[.pointer none, .int .i64 1])
set_option maxHeartbeats 1000000 in
theorem rvnew_at (z p b : Int) (w : World) : Calls Tryd.prog 6 #[.agg #[.int .i64 z, .int .i64 p, .int .i64 b]] w (RvNew z p b w) := by
  have HB1 : Hid (Below w.heap.size w (w.alloc (.cells #[.int .i64 z, .int .i64 p, .int .i64 b] 36))) := Lib.hid (below_box w _)
  have HCB : Hid (∀ u, Below (w.alloc (.cells #[.int .i64 z, .int .i64 p, .int .i64 b] 36)).heap.size (w.alloc (.cells #[.int .i64 z, .int .i64 p, .int .i64 b] 36)) u → u.cell? ⟨w.heap.size, 0, none⟩ = some (.int .i64 z) ∧ u.cell? ⟨w.heap.size, 1, none⟩ = some (.int .i64 p) ∧ u.cell? ⟨w.heap.size, 2, none⟩ = some (.int .i64 b)) := Lib.hid (fun u hu => cell_box hu)
  by_cases hr : rightB z p b = true
  · have hi := (right_in hr).1
    have HE : Hid (∀ w5 : World, Below w.heap.size w w5 → RvNew z p b w (.returned (.tuple #[.pointer (some ⟨w5.heap.size, 0, none⟩), .int .i64 0])) (w5.alloc (.cells #[.int .i64 z, .int .i64 p, .int .i64 b, .slice none 0 0] 44))) := Lib.hid (fun w5 h3 => by
      have h5 : Below w5.heap.size w5 (w5.alloc (.cells #[.int .i64 z, .int .i64 p, .int .i64 b, .slice none 0 0] 44)) := (Below.refl _ _).alloc (Nat.le_refl _) _
      refine ⟨below_all h3 h5, ?_⟩
      rw [if_pos hr]
      exact ⟨_, h3.size, rfl, ⟨.slice none 0 0, heap_alloc_new w5 _, OwnK.nil _ _ _ _⟩, ⟨hi, List.nodup_nil, fun a ha => (by cases ha)⟩⟩)
    have HR : Hid (∀ u, Calls Tryd.prog 24 #[.agg #[.int .i64 z, .int .i64 p, .int .i64 b]] u (BoolB true u)) := Lib.hid (fun u => by have := rright_is z p b u; rwa [hr] at this)
    clear hr hi
    go_enter Tryd.func6, Tryd.ntmps6
    go_wp2_with fail
    refine (HR.out _).mono ?_
    rintro r w2 ⟨rfl, hb⟩
    have HB2 := Lib.hid (below_all HB1.out hb)
    obtain ⟨x0, x1, x2⟩ := HCB.out _ hb
    clear hb HCB HB1 HR
    go_wp2_with fail
    go_ret2
    exact HE.out _ HB2.out
  · have HE : Hid (∀ u, Below w.heap.size w u → RvNew z p b w (.returned (.tuple #[.pointer none, .int .i64 1])) u) := Lib.hid (fun u hu => ⟨hu, by rw [if_neg hr]⟩)
    have hr' : rightB z p b = false := by simpa using hr
    have HR : Hid (∀ u, Calls Tryd.prog 24 #[.agg #[.int .i64 z, .int .i64 p, .int .i64 b]] u (BoolB false u)) := Lib.hid (fun u => by have := rright_is z p b u; rwa [hr'] at this)
    clear hr hr' HCB
    go_enter Tryd.func6, Tryd.ntmps6
    go_wp2_with fail
    refine (HR.out _).mono ?_
    rintro r w2 ⟨rfl, hb⟩
    have HB2 := Lib.hid (below_all HB1.out hb)
    clear hb
    go_wp2_with fail
    go_ret2
    exact HE.out _ HB2.out
theorem aC_at {w : World} {b o : Nat} {l : List Nat} (h : ∀ i (h : i < (aC l).length), w.cell? ⟨b, o + i, none⟩ = some (aC l)[i]) (k : Nat) (hk : k < l.length) : w.cell? ⟨b, o + k, none⟩ = some (.int .u32 (l[k] : Int)) := by
  rw [h k (by rw [aC_len]; exact hk)]
  simp [aC]
theorem take_mem {L : List Nat} {i a : Nat} (hi : i < L.length) (hn : a ∉ L.take i) (he : L[i] ≠ a) : a ∉ L.take (i + 1) := by
  rw [List.take_succ_eq_append_getElem hi, List.mem_append, List.mem_singleton]
  rintro (h | h)
  · exact hn h
  · exact he h.symm
section
variable {w : World} {rs : Nat} {S : VaS}
set_option maxHeartbeats 1000000 in
theorem rvlive_at (a : Nat) (h : RvM w rs S) : Calls Tryd.prog 13 #[.pointer (some ⟨rs, 0, none⟩), .int .u32 (a : Int)] w (BoolIs (S.liveB a) w) := by
  have hl352 := VaS.len_le h.2
  obtain ⟨⟨v, hc⟩, hw⟩ := h
  obtain ⟨A, c, rfl, hnc, _, _⟩ := hc.r.form
  have HR := Lib.hid hc.r.rd
  have z3 := hc.cells.2.2.2
  have HLV : Hid (S.liveB a = decide (a ∈ S.L)) := Lib.hid rfl
  generalize S.L = L at *
  obtain ⟨n, hn⟩ : ∃ n, L.length = n := ⟨_, rfl⟩
  have HN := Lib.hid hn
  rw [hn] at z3 hl352
  clear hc hw hn hnc
  go_enter Tryd.func13, Tryd.ntmps13
  go_wp2_with fail
  obtain ⟨wo, rfl⟩ : ∃ wo : World, wo = w := ⟨_, rfl⟩
  go_loopg [5] n (fun q y wr => ∃ i : Nat, i ≤ n ∧ q = n - i ∧ y = .int .i64 (i : Int) ∧ a ∉ L.take i ∧ wr = wo)
  case atStart => exact ⟨0, by omega, by omega, rfl, by simp, rfl⟩
  case round =>
    obtain ⟨i, hi, hq, rfl, hnm, rfl⟩ := hrel
    have HQ := Lib.hid hq
    have HNM := Lib.hid hnm
    clear hq hnm
    by_cases hlt : i < n
    · have hil : i < L.length := by rw [HN.out]; exact hlt
      obtain ⟨b, o, rfl, hbl, hcell⟩ := HR.out (by rw [aC_len]; omega)
      have c0 := aC_at hcell i hil
      by_cases he : L[i] = a
      · have HE : Hid (S.liveB a = true) := Lib.hid (by rw [HLV.out]; simp only [decide_eq_true_eq]; rw [← he]; exact List.getElem_mem hil)
        rw [he] at c0
        have q : ((a : Int) == (a : Int)) = true := by simp
        clear he hcell hil
        go_wp2_with fail
        go_ret
        exact ⟨ret_bool HE.out.symm, rfl⟩
      · have HM := Lib.hid (take_mem hil HNM.out he)
        obtain ⟨x, hx⟩ : ∃ x, L[i] = x := ⟨_, rfl⟩
        rw [hx] at c0 he
        have q : ((x : Int) == (a : Int)) = false := by simp; omega
        clear hcell hil he hx
        go_wp2_with fail
        go_roundg (n - (i + 1))
        case rel => exact ⟨i + 1, by omega, rfl, by go_num, HM.out, rfl⟩
        case measure => have := HQ.out; omega
    · obtain rfl : i = n := by omega
      have HE : Hid (S.liveB a = false) := Lib.hid (by
        have := HNM.out
        rw [← HN.out, List.take_length] at this
        rw [HLV.out]
        simpa using this)
      go_wp2_with fail
      go_ret
      exact ⟨ret_bool HE.out.symm, rfl⟩
set_option maxHeartbeats 2000000 in
theorem rvmark_at (a : Nat) (h : RvM w rs S) : Calls Tryd.prog 9 #[.pointer (some ⟨rs, 0, none⟩), .int .u32 (a : Int)] w (RvTo rs (S.markB a) (S.markS a) w) := by
  have HV := Lib.hid h
  have HWF := Lib.hid h.2
  have hl352 := VaS.len_le h.2
  have HAT := Lib.hid (rat_is S.z S.p S.b (a : Int) w h.2.i (by omega))
  obtain ⟨⟨v, hc⟩, hw⟩ := h
  obtain ⟨A, c, rfl, hnc, _, hA0⟩ := hc.r.form
  have HR := Lib.hid hc.r.rd
  have HA0 := Lib.hid hA0
  obtain ⟨z0, z1, z2, z3⟩ := hc.cells
  have HC := Lib.hid hc
  have f3 := hc.b.free 3
  by_cases ha : 1 ≤ a ∧ a ≤ S.m * S.P
  · rw [(VaS.page_of hw.i ha.1 ha.2).2.2.2] at HAT
    cases hlv : S.liveB a with
    | true =>
      have HE : Hid (∀ u, Below w.heap.size w u → RvTo rs (S.markB a) (S.markS a) w (.returned (.bool false)) u) := Lib.hid (fun u hu => by
        have hb : S.markB a = false := by unfold VaS.markB; rw [hlv]; simp
        have hs : S.markS a = S := by unfold VaS.markS; rw [hb]; rfl
        rw [hb, hs]
        exact ⟨rfl, HV.out.up hu, Kept.of_below hu⟩)
      have HLT : Hid (∀ u, RvM u rs S → Calls Tryd.prog 13 #[.pointer (some ⟨rs, 0, none⟩), .int .u32 (a : Int)] u (BoolIs true u)) := Lib.hid (fun u hu => by have := rvlive_at a hu; rwa [hlv] at this)
      clear hc hw ha hlv hnc hA0
      generalize S.z = z at *
      generalize S.p = p at *
      generalize S.b = b at *
      go_enter Tryd.func9, Tryd.ntmps9
      go_wp2_with fail
      refine HAT.out.mono ?_
      rintro r w1 ⟨rfl, hb⟩
      have HB := Lib.hid hb
      clear hb z0 z1 z2 z3
      go_wp2_with fail
      refine (HLT.out _ (HV.out.up HB.out)).mono ?_
      rintro r w2 ⟨rfl, rfl⟩
      go_wp2_with fail
      go_ret
      exact HE.out _ HB.out
    | false =>
      have hb : S.markB a = true := by unfold VaS.markB VaS.isB; rw [hlv, decide_eq_true ha]; rfl
      have hs : S.markS a = { S with L := S.L ++ [a] } := by unfold VaS.markS; rw [hb]; rfl
      have HE : Hid (∀ w1 v', Below w.heap.size w w1 → OwnK w1 w.heap.size 25 1 v' (S.L.length + 1) (aC (S.L ++ [a])) → RvTo rs (S.markB a) (S.markS a) w (.returned (.bool true)) (w1.setCell ⟨rs, 3, none⟩ v')) := Lib.hid (fun w1 v' hb1 ho => by
        have hwf := VaS.markS_wf HWF.out a
        rw [hb, hs]
        rw [hs] at hwf
        have hl := HC.out.lay (S' := { S with L := S.L ++ [a] }) hb1 (by simpa using ho) rfl rfl rfl
        exact ⟨rfl, ⟨⟨v', hl.1⟩, hwf⟩, hl.2⟩)
      have HLT : Hid (∀ u, RvM u rs S → Calls Tryd.prog 13 #[.pointer (some ⟨rs, 0, none⟩), .int .u32 (a : Int)] u (BoolIs false u)) := Lib.hid (fun u hu => by have := rvlive_at a hu; rwa [hlv] at this)
      have HZ3 : Hid (∀ u, Below w.heap.size w u → u.cell? ⟨rs, 3, none⟩ = some (.slice A S.L.length c) ∧ u.frozen? ⟨rs, 3, none⟩ = false) := Lib.hid (fun u hu => ⟨(HC.out.up hu).cells.2.2.2, (HC.out.up hu).b.free 3⟩)
      obtain ⟨n, hn⟩ : ∃ n, S.L.length = n := ⟨_, rfl⟩
      have HNN := Lib.hid hn
      rw [hn] at HZ3 HE z3 hl352
      clear hc hw ha hlv hnc hA0 hb hs hn f3
      generalize S.z = z at *
      generalize S.p = p at *
      generalize S.b = b at *
      have HL0 : Hid (aC S.L = aC S.L) := Lib.hid rfl
      obtain ⟨L, hL⟩ : ∃ L, S.L = L := ⟨_, rfl⟩
      rw [hL] at HR HNN HE
      clear hL HL0
      go_enter Tryd.func9, Tryd.ntmps9
      go_wp2_with fail
      refine HAT.out.mono ?_
      rintro r w1 ⟨rfl, hb⟩
      have HB1 := Lib.hid hb
      clear hb z0 z1 z2 z3
      go_wp2_with fail
      refine (HLT.out _ (HV.out.up HB1.out)).mono ?_
      rintro r w2 ⟨rfl, rfl⟩
      obtain ⟨w3, hw3⟩ : ∃ u, w1.alloc (.cells #[] 25) = u := ⟨_, rfl⟩
      have hb3 : Below w1.heap.size w1 w3 := by rw [← hw3]; exact (Below.refl _ _).alloc (Nat.le_refl _) _
      have HO3 : Hid (OwnK w3 w.heap.size 25 1 (.slice (some ⟨w1.heap.size, 0, none⟩) 0 0) 0 (aC [])) := Lib.hid (by rw [← hw3]; exact OwnK.new w1 w.heap.size 25 1 0 [] HB1.out.size rfl (by omega))
      have HB3 := Lib.hid (below_all HB1.out hb3)
      have HR3 := Lib.hid ((HR.out.below HB3.out).mono HB3.out.size)
      have hz3 := (HZ3.out _ HB3.out).1
      clear hb3
      go_wp2_with (first
        | (at_builtin; refine appP _ rfl (.tmp 26) (.tmp 30) 42 25 (.int .u32 0) 1 4 rfl Tryd.underlying42 u32Info rfl (by decide) (by decide) w.heap.size 0 n c (.slice (some ⟨w1.heap.size, 0, none⟩) 0 0) (aC []) (aC L) A rfl HO3.out rfl ((aC_len L).trans (HNN.out.trans (Nat.mul_one n).symm)) HR3.out HA0.out (aC_one _) (by omega) HB3.out.size ?_; intro v4 w4 ho hg; have HO4 : Hid (OwnK w4 w.heap.size 25 1 v4 n (aC L)) := Lib.hid (by rw [Nat.zero_add] at ho; exact ho); have HB4 := Lib.hid (below_grown HB3.out hg (fun e he => HO3.out.own e he)); obtain ⟨w5, hw5⟩ : ∃ u, w4.alloc (.cells #[.int .u32 (a : Int)] 25) = u := ⟨_, rfl⟩; have hb5 : Below w4.heap.size w4 w5 := (by rw [← hw5]; exact (Below.refl _ _).alloc (Nat.le_refl _) _); have HO5 := Lib.hid (HO4.out.up hb5); have HB5 := Lib.hid (below_all HB4.out hb5); have HR5 : Hid (RdV w5 w5.heap.size (some ⟨w4.heap.size, 0, none⟩) [.int .u32 (a : Int)]) := Lib.hid (fun _ => ⟨w4.heap.size, 0, rfl, by rw [← hw5]; simp, fun i hi => by rw [Nat.zero_add, ← hw5]; exact Blk.cell (T := 25) (heap_alloc_new w4 _) i hi⟩); clear ho hg hb5 hz3)
        | (at_builtin; refine appP _ rfl (.tmp 31) (.tmp 33) 42 25 (.int .u32 0) 1 4 rfl Tryd.underlying42 u32Info rfl (by decide) (by decide) w.heap.size n 1 1 v4 (aC L) [.int .u32 (a : Int)] (some ⟨w4.heap.size, 0, none⟩) rfl HO5.out rfl rfl HR5.out (fun e => by cases e) (fun u hu => by simp only [List.mem_cons, List.not_mem_nil, or_false] at hu; rcases hu with rfl; rfl) (by omega) HB5.out.size ?_; intro v6 w6 ho hg; obtain ⟨A6, c6, rfl, _, _, _⟩ := ho.form; have HO6 : Hid (OwnK w6 w.heap.size 25 1 (.slice A6 (n + 1) c6) (n + 1) (aC (L ++ [a]))) := Lib.hid (by rw [aC_snoc]; exact ho); have HB6 := Lib.hid (below_grown HB5.out hg (fun e he => HO5.out.own e he)); have z6 := (HZ3.out _ HB6.out).1; have f6 := (HZ3.out _ HB6.out).2; clear ho hg)
        | fail)
      go_ret
      exact HE.out _ _ HB6.out HO6.out
  · rw [VaS.no_page hw.i ha] at HAT
    have HE : Hid (∀ u, Below w.heap.size w u → RvTo rs (S.markB a) (S.markS a) w (.returned (.bool false)) u) := Lib.hid (fun u hu => by
      have hb : S.markB a = false := by unfold VaS.markB VaS.isB; rw [decide_eq_false ha]; rfl
      have hs : S.markS a = S := by unfold VaS.markS; rw [hb]; rfl
      rw [hb, hs]
      exact ⟨rfl, HV.out.up hu, Kept.of_below hu⟩)
    clear hc hw ha hnc hA0
    generalize S.z = z at *
    generalize S.p = p at *
    generalize S.b = b at *
    go_enter Tryd.func9, Tryd.ntmps9
    go_wp2_with fail
    refine HAT.out.mono ?_
    rintro r w1 ⟨rfl, hb⟩
    have HB := Lib.hid hb
    clear hb z0 z1 z2 z3
    go_wp2_with fail
    go_ret
    exact HE.out _ HB.out
end
end Go.Proofs.YtajccmkdfmpapaaDoor
