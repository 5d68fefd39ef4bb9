/-
  The cache in memory: a map page's dirty entries one behind the other (a range over a function that ranges over another one).
-/
import Derived.Test.YtajccmkdfmpapaaGreatDoorLcI
namespace Go.Proofs.YtajccmkdfmpapaaGreatDoor
open Go.RowKit
attribute [local go_sem] Oper.semAt_some

theorem ltable_at (b : Nat) (hb : b < 64) (w : World) : Calls Tryz.prog 40 #[.int .i64 (b : Int)] w fun r w' => r = .returned (.tuple #[.int .i64 ((b / 4 : Nat) : Int), .int .i64 ((b % 4 : Nat) : Int)]) ∧ w = w' := by
  have q1 : IntKind.i64.wrap ((b : Int).tdiv 4) = ((b / 4 : Nat) : Int) := by
    rw [Int.tdiv_eq_ediv_of_nonneg (by omega), IntWalk.i64_in _ (by omega)]
    omega
  have q2 : IntKind.i64.wrap ((b : Int).tmod 4) = ((b % 4 : Nat) : Int) := by
    rw [Int.tmod_eq_emod_of_nonneg (by omega), IntWalk.i64_in _ (by omega)]
    omega
  go_enter Tryz.func40, Tryz.ntmps40
  go_wp2_with fail
  go_ret2
  exact ⟨rfl, rfl⟩
theorem lcdirtyI_at (cb : Nat) (t : Int) (w : World) : Calls Tryz.prog 39 #[.pointer (some ⟨cb, 0, none⟩), .int .i64 t] w fun r w' => r = .returned (.func (.func 62) #[] #[.pointer (some ⟨w.heap.size, 0, none⟩), .pointer (some ⟨w.heap.size + 1, 0, none⟩)]) ∧ w' = (w.alloc (.cells #[.pointer (some ⟨cb, 0, none⟩)] 24)).alloc (.cells #[.int .i64 t] 3) := by
  go_enter Tryz.func39, Tryz.ntmps39
  go_wp2_with fail
  go_ret
  exact ⟨rfl, rfl⟩
theorem nxt_mem {L pre : List CE} {x : CE} (h : Nxt L pre x) : x ∈ L ∧ pre.length < L.length := by
  obtain ⟨post, e⟩ := h
  rw [← e]
  simp
theorem nxt_not {L pre : List CE} {x : CE} (h : Nxt L pre x) (ha : L.Pairwise (fun x y => x.b < y.b)) : x ∉ pre := by
  obtain ⟨post, e⟩ := h
  intro hx
  rw [← e, List.pairwise_append] at ha
  have := ha.2.2 x hx x (by simp)
  omega
theorem nxt_filter {L pre : List CE} {x : CE} {p : CE → Bool} (h : Nxt L pre x) (hp : p x = true) : Nxt (L.filter p) (pre.filter p) x := by
  obtain ⟨post, e⟩ := h
  refine ⟨post.filter p, ?_⟩
  rw [← e, List.filter_append, List.filter_cons_of_pos hp]
theorem ownFrom_keepT {β : Type} {NB B : Nat} {X : Nat → Prop} {W0 : World} (h1 : NB ≤ B) (h2 : NB ≤ W0.heap.size) : OwnFrom B (fun (_ : β) W => KeepT NB X W0 W) := by
  intro s A C row hs hg hr
  refine hs.trans ⟨hg.size, fun k hk _ => hg.block k (by have := hs.size; omega) (fun e => by have := (hr k e.symm).1; omega), fun k T cs _ hb => (hg.block k (lt_of_block hb) (fun e => ?_)).trans hb⟩
  obtain ⟨_, o, ho, hc⟩ := hr k e.symm
  unfold Blk at hb
  rw [hb] at ho
  rw [← Option.some.inj ho] at hc
  simp [Obj.isCells] at hc
/-- What the loop within keeps. -/
def DirI (J : List CE → World → Prop) (t : Int) (NB : Nat) (X : Nat → Prop) (W0 : World) (ys : List CE) (W : World) : Prop := J (ys.filter (CaS.isD t)) W ∧ KeepT NB X W0 W
theorem callsIn_inRound {l n f : Nat} {P : Program} {args : Array Value} {w : World} {R : Ending → World → Prop} (h : Calls P f args w R) : CallsIn (Fence.wide.inRound l) n P f args w R := callsIn_wide (n := n) |>.2 h
set_option maxHeartbeats 4000000 in
set_option maxRecDepth 100000 in
theorem ldirtyA_in {cb kb ib eb PB TB NB : Nat} {X : Nat → Prop} {σ : Nat → Nat} {S : CaS} {t : Int} (hsl : ∀ e ∈ S.E, σ e.b < S.n) (hwf : S.WF) (h1 : cb < NB) (h2 : ¬ X cb) (h3 : ib < NB) (h4 : ¬ X ib) (h5 : TB < NB) (h6 : ¬ X TB) (ly : Nat) (J : List CE → World → Prop) (W : World) (hN : NB ≤ W.heap.size) (hJ : OwnFrom W.heap.size J)
    (hE : ∀ pre W1, J pre W1 → ∀ e ∈ S.E, e ∉ pre → W1.cell? ⟨eb, σ e.b * 3, none⟩ = some (.int .i64 (e.b : Int)) ∧ W1.cell? ⟨eb, σ e.b * 3 + 2, none⟩ = some (.bool e.d))
    (hY : ∀ pre x W1, J pre W1 → Nxt (S.dirtyL t) pre x → YieldAt Fence.wide 1 Tryz.prog ly (encP σ eb x) W1 fun e W' => e = .returned (.bool true) ∧ J (pre ++ [x]) W' ∧ KeepT NB X W1 W' ∧ KeepsOthers W1 W')
    (h0 : J [] W) (hst : KnSt W cb kb ib eb PB σ S) (hTB : Blk W TB 3 [.int .i64 t]) :
    Calls Tryz.prog 62 #[.func (.yield ly) #[] #[], .pointer (some ⟨PB, 0, none⟩), .pointer (some ⟨TB, 0, none⟩)] W fun e W' => (∃ v, e = .returned v) ∧ ∃ xs, xs = S.dirtyL t ∧ J xs W' := by
  have HY := Lib.hid hY
  have HJ := Lib.hid hJ
  have HE := Lib.hid hE
  have HSL := Lib.hid hsl
  have HWF := Lib.hid hwf
  have HK := Lib.hid (And.intro h1 (And.intro h2 (And.intro h3 (And.intro h4 (And.intro h5 h6)))))
  have HN := Lib.hid hN
  have H0 := Lib.hid h0
  have HST := Lib.hid hst
  have HTB := Lib.hid hTB
  have pb := hst.p.cell 0 (by simp)
  have hpl := lt_of_block hst.p
  simp only [List.getElem_cons_zero] at pb
  clear hY hJ hE hsl hwf h1 h2 h3 h4 h5 h6 hN h0 hst hTB
  refine (callsIn_wide (n := 6)).1 ?_
  refine callsIn_of_wp_marks Tryz.func62 rfl trivial ?_ rfl
  simp only [Tryz.ntmps62, List.size_toArray, List.length_cons, List.length_nil, Nat.reduceAdd, Nat.reduceSub, Array.replicate_succ, Array.replicate_zero, List.push_toArray, List.append_toArray, List.nil_append, List.cons_append]
  refine wpIn_wide.2 ?_
  go_wp2_with (first
    | (go_at_call 38; refine (lcknown_at cb _).mono ?_; rintro r w11 ⟨rfl, rfl⟩)
    | fail)
  obtain ⟨L, hL⟩ : ∃ L, W.heap.size = L := ⟨_, rfl⟩
  obtain ⟨W0, hW0⟩ : ∃ W0 : World, W0 = (W.alloc (.cells #[.func (.yield ly) #[] #[]] 120)).alloc (.cells #[.pointer (some ⟨cb, 0, none⟩)] 24) := ⟨_, rfl⟩
  have hs0 : W0.heap.size = L + 2 := by rw [hW0]; simp [hL]
  have HYB0 : Hid (Blk W0 L 120 [.func (.yield ly) #[] #[]]) := Lib.hid (by
    rw [hW0, ← hL]
    exact (Boxed.new W 120 (.func (.yield ly) #[] #[])).alloc _)
  have HPB0 : Hid (Blk W0 (L + 1) 24 [.pointer (some ⟨cb, 0, none⟩)]) := Lib.hid (by
    have := Boxed.new (W.alloc (.cells #[.func (.yield ly) #[] #[]] 120)) 24 (.pointer (some ⟨cb, 0, none⟩))
    rw [World.size_alloc, hL] at this
    rw [hW0]
    exact this)
  have HBW0 : Hid (Below W.heap.size W W0) := Lib.hid (by
    rw [hW0]
    exact ((Below.refl W.heap.size W).alloc (Nat.le_refl _) _).alloc (by rw [World.size_alloc]; omega) _)
  have HN0 : Hid (NB ≤ W0.heap.size) := Lib.hid (by have := HN.out; omega)
  rw [← hW0, hL]
  clear hW0
  refine (wpIn_wide (n := 3)).1 ?_
  refine range_seenG (α := CE) (gf := 59) (lb := #[.pointer (some ⟨L + 1, 0, none⟩)]) rfl (by omega) rfl trivial (enters_of Tryz.func59 (by kernel_rfl) rfl) (encs := fun (e : CE) => #[Value.pointer (some ⟨eb, σ e.b * 3, none⟩)]) (Kp := KeepT NB X) (E := fun _ _ => True) (G := Nxt S.E) (S := fun ys _ => ys = S.E) ?seq (fun h k => h.trans k)
    (fun W' q o o' hq ho hc => KeepT.putObj o' (by have := HN0.out; omega) ho hc) (fun ys W' q o o' _ hs _ _ => hs) (fun _ => rfl)
    (DirI J t NB X W0)
    (OwnFrom.and (fun s A C row hs hg hr => OwnFrom.mono HJ.out (by omega) _ A C row hs hg hr) (ownFrom_keepT HN0.out HN0.out))
    (fun _ _ _ => trivial) ⟨OwnFrom.step HJ.out H0.out HBW0.out, KeepT.refl _⟩
    (fun x => { tmps := #[.func (.yield ly) #[] #[], .pointer (some ⟨PB, 0, none⟩), .pointer (some ⟨TB, 0, none⟩), .pointer (some ⟨L, 0, none⟩), .pointer (some ⟨eb, σ x.b * 3, none⟩), undef, undef, .pointer (some ⟨cb, 0, none⟩), .func (Fn.func 59) #[] #[.pointer (some ⟨L + 1, 0, none⟩)], .pointer (some ⟨eb, σ x.b * 3, none⟩), undef, undef, undef, undef, undef, undef, undef, undef, undef, undef, undef, undef, undef, undef, undef, undef, undef, undef, undef, undef, undef, undef, undef], defers := [] }) ?assign ?body ?done
  case seq =>
    intro lq J' W' hbW hJ' _ hY' h0'
    refine callsIn_wide.2 ?_
    have h2 := HST.out.up HBW0.out
    have h3 := h2.up hbW
    exact lknownA_in (NB := NB) (X := X) HSL.out HWF.out HK.out.1 HK.out.2.1 HK.out.2.2.1 HK.out.2.2.2.1 lq J' W' (by have := hbW.size; have := HN0.out; omega) hJ' hY' h0' ⟨h3.b, h3.x, (hbW.block (L + 1) (by omega)).trans HPB0.out⟩
  case assign =>
    intro lq x W' K hK
    gi_wp2
    exact hK
  case body =>
    rintro lq pre x W' ⟨hj, hk⟩ hG
    have HJ1 := Lib.hid hj
    have HK1 := Lib.hid hk
    have HG := Lib.hid hG
    obtain ⟨hxm, _⟩ := nxt_mem hG
    have hxn : x ∉ pre.filter (CaS.isD t) := fun h => nxt_not hG HWF.out.asc (List.mem_filter.1 h).1
    obtain ⟨q0, q2⟩ := HE.out _ _ hj x hxm hxn
    have hb64 := HWF.out.b64 x hxm
    have tb := (hk.block TB HK.out.2.2.2.2.1 HK.out.2.2.2.2.2 |> fun e => (e.trans ((HBW0.out.block TB (by have := HN.out; have := HK.out.2.2.2.2.1; omega)).trans HTB.out) : Blk W' TB 3 [.int .i64 t])).cell 0 (by simp)
    have yb := (hk.ty L 120 _ (.inr (.inr rfl)) HYB0.out).cell 0 (by simp)
    simp only [List.getElem_cons_zero] at tb yb
    have HYY := Lib.hid (fun hD : CaS.isD t x = true => YieldAt.inRound (l' := lq) (m' := 0) (HY.out _ x W' HJ1.out (nxt_filter HG.out hD)))
    have HFI : Hid ((pre ++ [x]).filter (CaS.isD t) = if CaS.isD t x = true then pre.filter (CaS.isD t) ++ [x] else pre.filter (CaS.isD t)) := Lib.hid (by
      rw [List.filter_append]
      by_cases h : CaS.isD t x = true
      · rw [if_pos h, List.filter_cons_of_pos h]
        rfl
      · rw [if_neg h, List.filter_cons_of_neg h]
        simp)
    have HB64 := Lib.hid hb64
    unfold encP at HYY
    have HDD : Hid (∀ y, CaS.isD y x = (x.d && decide (((x.b / 4 : Nat) : Int) = y))) := Lib.hid (fun _ => rfl)
    obtain ⟨s, hs⟩ : ∃ s, σ x.b = s := ⟨_, rfl⟩
    obtain ⟨xb, hxb⟩ : ∃ y, x.b = y := ⟨_, rfl⟩
    obtain ⟨xd, hxd⟩ : ∃ y, x.d = y := ⟨_, rfl⟩
    rw [hs] at q0 q2 HYY ⊢
    rw [hxb] at q0 HB64 HDD
    rw [hxd] at q2 HDD
    obtain ⟨fl, hfl⟩ : ∃ fl, pre.filter (CaS.isD t) = fl := ⟨_, rfl⟩
    rw [hfl] at HJ1 HYY HFI
    have HTQ := Lib.hid (ltable_at xb HB64.out)
    obtain ⟨x4, hx4⟩ : ∃ y, xb / 4 = y := ⟨_, rfl⟩
    obtain ⟨y4, hy4⟩ : ∃ y, xb % 4 = y := ⟨_, rfl⟩
    rw [hx4, hy4] at HTQ
    rw [hx4] at HDD
    clear hx4 hy4
    clear hj hk hG hxm hxn hb64 hs hxb hxd hfl
    cases xd with
    | false =>
      have HNO : Hid ((pre ++ [x]).filter (CaS.isD t) = fl) := Lib.hid (by rw [HFI.out, HDD.out]; simp)
      clear HYY HFI HDD
      gi_wp2
      refine ⟨trivial, callsIn_inRound ((HTQ.out _).mono ?_)⟩
      rintro r w5 ⟨rfl, rfl⟩
      gi_wp2
      refine ⟨fun f h => (by cases h), ?_⟩
      gi_wp2
      exact ⟨KeepsOthers.refl _, KeepT.refl _, ⟨by rw [HNO.out]; exact HJ1.out, HK1.out⟩⟩
    | true =>
      by_cases ht : (x4 : Int) = t
      · have q : ((x4 : Int) == t) = true := by simpa using ht
        have hD : CaS.isD t x = true := by rw [HDD.out]; simpa using ht
        have HYES : Hid ((pre ++ [x]).filter (CaS.isD t) = fl ++ [x]) := Lib.hid (by rw [HFI.out, if_pos hD])
        obtain ⟨fn, tmps, assign, body, hy, hRI⟩ := HYY.out hD
        have HRI := Lib.hid hRI
        clear HYY HFI HDD hRI hD ht
        gi_wp2
        refine ⟨trivial, callsIn_inRound ((HTQ.out _).mono ?_)⟩
        rintro r w5 ⟨rfl, rfl⟩
        gi_wp2
        refine HRI.out.mono ?_
        rintro e' w5 ⟨rfl, hj5, hk5, hko5⟩
        have HJ5 := Lib.hid hj5
        have HK5 := Lib.hid hk5
        have HO5 := Lib.hid hko5
        clear hj5 hk5 hko5 HRI hy
        gi_wp2
        exact ⟨HO5.out, HK5.out, ⟨by rw [HYES.out]; exact HJ5.out, HK1.out.trans HK5.out⟩⟩
      · have q : ((x4 : Int) == t) = false := by simpa using ht
        have HNO : Hid ((pre ++ [x]).filter (CaS.isD t) = fl) := Lib.hid (by rw [HFI.out, HDD.out]; simp [ht])
        clear HYY HFI HDD ht
        gi_wp2
        refine ⟨trivial, callsIn_inRound ((HTQ.out _).mono ?_)⟩
        rintro r w5 ⟨rfl, rfl⟩
        gi_wp2
        refine ⟨fun f h => (by cases h), ?_⟩
        gi_wp2
        exact ⟨KeepsOthers.refl _, KeepT.refl _, ⟨by rw [HNO.out]; exact HJ1.out, HK1.out⟩⟩
  case done =>
    rintro D ys W' hD hys ⟨hj, hk⟩ hKD
    subst hys
    go_wp2_with fail
    refine ⟨by simp, .inl ⟨_, _, rfl, run_takeDeferred hKD, ?_⟩⟩
    exact ⟨.tuple #[], by simp [results, Tryz.results62, go_sem], ⟨_, rfl⟩, S.dirtyL t, rfl, HJ.out.putObj _ hj (by omega) hKD rfl⟩
end Go.Proofs.YtajccmkdfmpapaaGreatDoor
