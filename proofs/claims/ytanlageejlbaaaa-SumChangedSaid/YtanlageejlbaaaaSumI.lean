/-
  platelayerlaw03.SumChanged answers true.
-/
import Derived.Test.YtanlageejlbaaaaSumF
import Derived.Test.YtanlageejlbaaaaSumG
import Derived.Laws.OwnMore
namespace Go.Proofs.Ytanlageejlbaaaa
open Go.RowKit

/-- The call's own row of bytes xs, in block g. -/
def Own8 (w : World) (base g cap : Nat) (xs : List Int) : Prop := w.ownsRow base 5 1 (.slice (some ⟨g, 0, none⟩) xs.length cap) xs.length (cellsOf8 xs)
theorem Own8.cell {w : World} {base g cap : Nat} {xs : List Int} (h : Own8 w base g cap xs) (k : Nat) (hk : k < xs.length) : w.cell? ⟨g, k, none⟩ = some (.int .u8 xs[k]) := by
  rw [World.ownsRow.cellAt h k (by omega)]
  simp [cellsOf8, hk]
theorem Own8.free {w : World} {base g cap : Nat} {xs : List Int} (h : Own8 w base g cap xs) (k : Nat) : w.frozen? ⟨g, k, none⟩ = false := World.ownsRow.frozenAt h k
theorem Own8.put {w : World} {base g cap : Nat} {xs : List Int} (h : Own8 w base g cap xs) (k : Nat) (c : Int) : Own8 (w.setCell ⟨g, k, none⟩ (.int .u8 c)) base g cap (xs.set k c) := by
  have := (World.ownsRow.stored h k (.int .u8 c)).1
  unfold Own8
  rw [List.length_set]
  have e : cellsOf8 (xs.set k c) = (cellsOf8 xs).set k (.int .u8 c) := by simp [cellsOf8, List.map_set]
  rw [e]
  exact this
theorem Own8.rd {w : World} {base g cap : Nat} {xs : List Int} (h : Own8 w base g cap xs) : Rd w w.heap.size (some ⟨g, 0, none⟩) xs := by
  intro hp
  obtain ⟨_, _, hv, hb, hg⟩ := World.ownsRow.form h hp
  injection hv with hv
  injection hv with hv
  injection hv with hv
  subst hv
  exact ⟨g, 0, rfl, hg, fun i hi => by rw [Nat.zero_add]; exact h.cell i hi⟩
theorem Own8.base {w : World} {base g cap : Nat} {xs : List Int} (h : Own8 w base g cap xs) (hp : 0 < xs.length) : base ≤ g ∧ g < w.heap.size := by
  obtain ⟨_, _, hv, hb, hg⟩ := World.ownsRow.form h hp
  injection hv with hv
  injection hv with hv
  injection hv with hv
  subst hv
  exact ⟨hb, hg⟩
theorem Own8.cap {w : World} {base g cap : Nat} {xs : List Int} (h : Own8 w base g cap xs) : xs.length ≤ cap := by
  rcases h.2 with ⟨h', _⟩ | ⟨_, _, _, h', _, _, hc, _⟩
  · simp at h'
  · injection h' with _ _ h'
    omega
theorem Own8.of {w : World} {base : Nat} {v : Value} {xs : List Int} (h : w.ownsRow base 5 1 v xs.length (cellsOf8 xs)) (hp : 0 < xs.length) : ∃ g cap, v = .slice (some ⟨g, 0, none⟩) xs.length cap ∧ Own8 w base g cap xs := by
  obtain ⟨g, cap, rfl, _, _⟩ := World.ownsRow.form h hp
  exact ⟨g, cap, rfl, h⟩

/-- Nothing old has changed since w, and D reads as ds. -/
def KeptD (w : World) (D : Option Addr) (ds : List Int) (u : World) : Prop := Below w.heap.size w u ∧ Rd u u.heap.size D ds
theorem KeptD.up {w : World} {D : Option Addr} {ds : List Int} {a u : World} (h : KeptD w D ds a) (hb : Below a.heap.size a u) : KeptD w D ds u := ⟨below_all h.1 hb, (h.2.below hb).mono hb.size⟩
theorem KeptD.of {w : World} {D : Option Addr} {ds : List Int} {u : World} {n c : Nat} {m : Int} (h : KeptD w D ds u) (hx : Byt ds) (hl : n = ds.length) (hc : n ≤ c) (hn : n ≤ 20000) (hm : sumN ds = m) :
    Calls Try.prog 8 #[.slice D n c] u (fun e w' => e = .returned (.int .u32 m) ∧ Below u.heap.size u w') := by
  subst hl hm
  exact of_is D ds c u hx h.2 hc (by omega)
theorem KeptD.cell {w : World} {D : Option Addr} {ds xs : List Int} {b o : Nat} {u : World} (h : KeptD w D ds u) (hr : Rd w w.heap.size (some ⟨b, o, none⟩) xs) (k : Nat) (hk : k < xs.length) : u.cell? ⟨b, o + k, none⟩ = some (.int .u8 xs[k]) := by
  obtain ⟨b', o', hA, _, hc⟩ := (hr.below h.1) (by omega)
  injection hA with hA
  injection hA with e1 e2
  subst e1 e2
  exact hc k hk

theorem changed_out (A : Option Addr) (n c : Nat) (i x : Int) (w : World) (h : 20000 < n ∨ i < 0 ∨ (n : Int) ≤ i) : Calls Try.prog 5 #[.slice A n c, .int .i64 i, .int .u8 x] w (TrueB w) := by
  by_cases h1 : 20000 < n
  · clear h
    go_enter Try.func5, Try.ntmps5
    go_wp2_with fail
    refine (awake_true w).mono ?_
    rintro r w1 ⟨rfl, hb⟩
    have HB := Lib.hid hb
    clear hb
    go_wp2_with fail
    go_ret
    exact ⟨rfl, HB.out⟩
  · by_cases h2 : i < 0
    · clear h
      go_enter Try.func5, Try.ntmps5
      go_wp2_with fail
      refine (awake_true w).mono ?_
      rintro r w1 ⟨rfl, hb⟩
      have HB := Lib.hid hb
      clear hb
      go_wp2_with fail
      go_ret
      exact ⟨rfl, HB.out⟩
    · have h3 : (n : Int) ≤ i := by omega
      clear h
      go_enter Try.func5, Try.ntmps5
      go_wp2_with fail
      refine (awake_true w).mono ?_
      rintro r w1 ⟨rfl, hb⟩
      have HB := Lib.hid hb
      clear hb
      go_wp2_with fail
      go_ret
      exact ⟨rfl, HB.out⟩

set_option maxHeartbeats 2000000 in
set_option maxRecDepth 100000 in
theorem changed_true (b o : Nat) (xs : List Int) (c k : Nat) (x : Int) (w : World) (hx : Byt xs) (hr : Rd w w.heap.size (some ⟨b, o, none⟩) xs) (hc : xs.length ≤ c) (hn : xs.length ≤ 20000) (hk : k < xs.length) (x0 : 0 ≤ x) (x1 : x ≤ 255) :
    Calls Try.prog 5 #[.slice (some ⟨b, o, none⟩) xs.length c, .int .i64 (k : Int), .int .u8 x] w (TrueB w) := by
  have HX := Lib.hid hx
  have HR := Lib.hid hr
  obtain ⟨s, hs⟩ : ∃ s, sumN xs = s := ⟨_, rfl⟩
  obtain ⟨ds, hds⟩ : ∃ ds, ds = xs.set k x := ⟨_, rfl⟩
  obtain ⟨m, hm⟩ : ∃ m, sumN ds = m := ⟨_, rfl⟩
  have hdl : ds.length = xs.length := by rw [hds, List.length_set]
  have HDX : Hid (Byt ds) := Lib.hid (by
    rw [hds]
    intro y hy
    rcases List.mem_or_eq_of_mem_set hy with hy | rfl
    · exact hx y hy
    · exact ⟨x0, x1⟩)
  have hq : (m == s) = (x == xs[k]) := by
    have := changed_iff hx hk x0 x1
    rw [← hds, hs, hm] at this
    rw [Bool.eq_iff_iff]
    simpa using this
  have HS := Lib.hid hs
  have HM := Lib.hid hm
  have HDS := Lib.hid hds
  have HDL := Lib.hid hdl
  have HQ := Lib.hid hq
  clear hx hr hs hm hds hdl hq
  go_enter Try.func5, Try.ntmps5
  go_wp2_with fail
  refine (awake_true w).mono ?_
  rintro r w1 ⟨rfl, hb⟩
  have HB1 := Lib.hid hb
  clear hb
  go_wp2_with fail
  have hof := of_is (some ⟨b, o, none⟩) xs c w1 HX.out ((HR.out.below HB1.out).mono HB1.out.size) hc (by omega)
  rw [HS.out] at hof
  refine hof.mono ?_
  clear hof
  rintro r w2 ⟨rfl, hb⟩
  have HB2 := Lib.hid (below_all HB1.out hb)
  clear hb HB1
  have HE := Lib.hid (own_empty w2 w.heap.size HB2.out.size)
  have HB3 := Lib.hid (HB2.out.alloc HB2.out.size (.cells #[] 5))
  go_wp2_with (first
    | (at_builtin; refine append_rd _ rfl (.tmp 26) (.tmp 27) rfl w.heap.size w.heap.size _ [] rfl HE.out (some ⟨b, o, none⟩) xs c rfl (HR.out.below HB3.out) (fun h => by cases h) (by simp; omega) HB3.out.size ?_; intro v3 w3 zs hzs hown hg; obtain rfl : xs = zs := (by rw [hzs.out]; rfl); clear hzs; have HB4 := Lib.hid (HB3.out.grown hg HB3.out.size (fun q hq => (HE.out.lt q hq).1)); clear hg; obtain ⟨g, cap, rfl, ho⟩ := Own8.of hown (by omega); have HO := Lib.hid ho; have hcap := ho.cap; clear hown ho; have f1 := HO.out.cell k hk; have f2 := HO.out.free k)
    | fail)
  have HO2 : Hid (Own8 (w3.setCell ⟨g, k, none⟩ (.int .u8 x)) w.heap.size g cap ds) := Lib.hid (by rw [HDS.out]; exact HO.out.put k x)
  have HK : Hid (KeptD w (some ⟨g, 0, none⟩) ds (w3.setCell ⟨g, k, none⟩ (.int .u8 x)).drew) := Lib.hid ⟨(HB4.out.setCell (p := ⟨g, k, none⟩) (HO.out.base (by omega)).1 _).drew, HO2.out.rd⟩
  clear f1 f2 HB4 HB3 HE HO HO2
  refine wp_region_in (KeptD w (some ⟨g, 0, none⟩) ds) HK.out (by kernel_rfl) (by kernel_rfl) (fun ne => ?_)
  have ofD := fun n : In (KeptD w (some ⟨g, 0, none⟩) ds) => KeptD.of (n := xs.length) (c := cap) n.ok HDX.out HDL.out.symm hcap hn HM.out
  have cD := fun n : In (KeptD w (some ⟨g, 0, none⟩) ds) => n.ok.cell HR.out k hk
  obtain ⟨t, ht⟩ : ∃ t, (x == xs[k]) = t := ⟨_, rfl⟩
  have q1 := HQ.out
  rw [ht] at q1
  have q2 : (t != t) = false := by simp
  repeat (go_big_quiet_step (first
    | (go_at_call 8; with_reducible exact In.more KeptD.up (ofD _))))
  refine wpQuiet_nil ?_
  intro nq
  have HB5 := Lib.hid nq.ok.1
  clear ofD cD HK HQ HM
  by_cases hl : k + 1 = xs.length
  · have q3 : ((k : Int) + 1 == (xs.length : Int)) = true := by simp; omega
    go_wp2_with fail
    go_ret
    exact ⟨rfl, HB5.out⟩
  have hl2 : k + 1 < xs.length := by omega
  have q3 : ((k : Int) + 1 == (xs.length : Int)) = false := by simp; omega
  obtain ⟨es, hes⟩ : ∃ es, es = (xs.set k xs[k + 1]).set (k + 1) xs[k] := ⟨_, rfl⟩
  obtain ⟨m2, hm2⟩ : ∃ m2, sumN es = m2 := ⟨_, rfl⟩
  have hel : es.length = xs.length := by rw [hes, List.length_set, List.length_set]
  have HEX : Hid (Byt es) := Lib.hid (by
    rw [hes]
    intro y hy
    rcases List.mem_or_eq_of_mem_set hy with hy | rfl
    · rcases List.mem_or_eq_of_mem_set hy with hy | rfl
      · exact HX.out y hy
      · exact HX.out _ (List.getElem_mem _)
    · exact HX.out _ (List.getElem_mem _))
  have hq : (m2 == s) = (xs[k] == xs[k + 1]) := by
    have := swapped_iff HX.out hl2
    rw [← hes, HS.out, hm2] at this
    rw [Bool.eq_iff_iff]
    simpa using this
  have HM2 := Lib.hid hm2
  have HES := Lib.hid hes
  have HEL := Lib.hid hel
  have HQ := Lib.hid hq
  clear hm2 hes hel hq
  have HE := Lib.hid (own_empty nq.w w.heap.size HB5.out.size)
  have HB3 := Lib.hid (HB5.out.alloc HB5.out.size (.cells #[] 5))
  go_wp2_with (first
    | (at_builtin; refine append_rd _ rfl (.tmp 49) (.tmp 50) rfl w.heap.size w.heap.size _ [] rfl HE.out (some ⟨b, o, none⟩) xs c rfl (HR.out.below HB3.out) (fun h => by cases h) (by simp; omega) HB3.out.size ?_; intro v4 w4 zs hzs hown hg; obtain rfl : xs = zs := (by rw [hzs.out]; rfl); clear hzs; have HB4 := Lib.hid (HB3.out.grown hg HB3.out.size (fun q hq => (HE.out.lt q hq).1)); clear hg; obtain ⟨g2, cap2, rfl, ho⟩ := Own8.of hown (by omega); have HO := Lib.hid ho; have hcap2 := ho.cap; clear hown ho)
    | fail)
  have HO1 := Lib.hid (HO.out.put k xs[k + 1])
  have HO2 : Hid (Own8 ((w4.setCell ⟨g2, k, none⟩ (.int .u8 xs[k + 1])).setCell ⟨g2, k + 1, none⟩ (.int .u8 xs[k])) w.heap.size g2 cap2 es) := Lib.hid (by rw [HES.out]; exact HO1.out.put (k + 1) xs[k])
  have f1 := HO.out.cell k hk
  have f2 := HO.out.cell (k + 1) hl2
  have f3 := HO.out.free k
  have f4 := HO.out.free (k + 1)
  have f5 := HO1.out.free (k + 1)
  have HK : Hid (KeptD w (some ⟨g2, 0, none⟩) es ((w4.setCell ⟨g2, k, none⟩ (.int .u8 xs[k + 1])).setCell ⟨g2, k + 1, none⟩ (.int .u8 xs[k])).drew) :=
    Lib.hid ⟨((HB4.out.setCell (p := ⟨g2, k, none⟩) (HO.out.base (by omega)).1 _).setCell (p := ⟨g2, k + 1, none⟩) (HO.out.base (by omega)).1 _).drew, HO2.out.rd⟩
  go_region
  clear f1 f2 f3 f4 f5 HO HO1 HO2 HB4 HB3 HE
  replace HK : Hid (KeptD w (some ⟨g2, 0, none⟩) es ((w4.setCell ⟨g2, k, none⟩ (.int .u8 xs[k + 1])).setCell ⟨g2, k + 1, none⟩ (.int .u8 xs[k])).drew.drew) := Lib.hid (HK.out.up (Below.refl _ _).drew)
  go_wp2_with fail
  refine wp_region_in (KeptD w (some ⟨g2, 0, none⟩) es) HK.out (by kernel_rfl) (by kernel_rfl) (fun ne => ?_)
  have ofD := fun n : In (KeptD w (some ⟨g2, 0, none⟩) es) => KeptD.of (n := xs.length) (c := cap2) n.ok HEX.out HEL.out.symm hcap2 hn HM2.out
  have cD := fun n : In (KeptD w (some ⟨g2, 0, none⟩) es) => n.ok.cell HR.out k hk
  have cE := fun n : In (KeptD w (some ⟨g2, 0, none⟩) es) => n.ok.cell HR.out (k + 1) hl2
  obtain ⟨t2, ht2⟩ : ∃ t2, (xs[k] == xs[k + 1]) = t2 := ⟨_, rfl⟩
  have q4 := HQ.out
  rw [ht2] at q4
  have q5 : (t2 == t2) = true := by simp
  repeat (go_big_quiet_step (first
    | (go_at_call 8; with_reducible exact In.more KeptD.up (ofD _))))
  refine wpQuiet_nil ?_
  intro nr
  have HB6 := Lib.hid nr.ok.1
  clear ofD cD cE HK HQ HM2
  go_wp2_with fail
  go_ret
  exact ⟨rfl, HB6.out⟩
end Go.Proofs.Ytanlageejlbaaaa
