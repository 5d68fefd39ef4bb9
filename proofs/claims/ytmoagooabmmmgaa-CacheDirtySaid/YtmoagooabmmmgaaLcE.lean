/-
  The cache in memory: Drop.
-/
import Derived.Test.YtmoagooabmmmgaaLcD
namespace Go.Proofs.Ytmoagooabmmmgaa
open Go.RowKit

theorem set3_off {cs : List Value} {k j : Nat} {u v t : Value} (h : j < k ∨ k + 2 < j) : (((cs.set k u).set (k + 1) v).set (k + 2) t)[j]? = cs[j]? := by
  rw [set_off (by omega), set_off (by omega), set_off (by omega)]
theorem set3_at {cs : List Value} {k : Nat} {u v t : Value} (h : k + 2 < cs.length) : (((cs.set k u).set (k + 1) v).set (k + 2) t)[k]? = some u ∧ (((cs.set k u).set (k + 1) v).set (k + 2) t)[k + 1]? = some v ∧ (((cs.set k u).set (k + 1) v).set (k + 2) t)[k + 2]? = some t := by
  refine ⟨?_, ?_, ?_⟩
  · rw [set_off (by omega), set_off (by omega), List.getElem?_set_self (by omega)]
  · rw [set_off (by omega), List.getElem?_set_self (by simp; omega)]
  · rw [List.getElem?_set_self (by simp; omega)]
/-- An entry is laid at a slot. -/
def put3 (w : World) (g s : Nat) (u v t : Value) : World := ((w.setCell ⟨g, s * 3, none⟩ u).setCell ⟨g, s * 3 + 1, none⟩ v).setCell ⟨g, s * 3 + 2, none⟩ t
theorem put3_kept (w : World) (g s : Nat) (u v t : Value) : Kept (fun k => k = g) w (put3 w g s u v t) := (((Kept.refl (fun k => k = g) w).put (.inl rfl) _ u).put (.inl rfl) _ v).put (.inl rfl) _ t
theorem put3_blk {w : World} {g : Nat} {T : TypeId} {cs : List Value} (h : Blk w g T cs) (s : Nat) (u v t : Value) : Blk (put3 w g s u v t) g T (((cs.set (s * 3) u).set (s * 3 + 1) v).set (s * 3 + 2) t) := ((h.put _ u).put _ v).put _ t
section
variable {w w1 w2 w' : World} {cb kb ib eb : Nat} {σ : Nat → Nat} {S : CaS}
theorem LcC.dropped {e : CE} {x : Int} {u v t : Value} (h : LcC w cb kb ib eb σ S) (hh : S.has x = true) (he : e ∈ S.E) (hb : (e.b : Int) = x) (hx : IxM w1 ib ((ixs σ S).dropS e.b)) (hk1 : Kept (fun k => k = ib) w w1) (hr : RkM w2 kb ((S.rk.map σ).remS (σ e.b : Int))) (hk2 : Kept (fun k => k = kb) w1 w2) :
    LcC (put3 w2 eb (σ e.b) u v t) cb kb ib eb σ (S.dropS x) ∧ Kept (lcF kb ib eb) w (put3 w2 eb (σ e.b) u v t) := by
  have hne := h.ne
  have hinj : ∀ y ∈ S.rk.T ++ S.rk.K, σ y = σ e.b → y = e.b := CaS.inj_rk h.wf h.inj ⟨_, he, rfl⟩
  have hk3 := put3_kept w2 eb (σ e.b) u v t
  have hwf := CaS.drop_wf h.wf x
  have hS : S.dropS x = ({ S with E := dropE S.E x } : CaS).setR (S.rk.remS x) := by
    unfold CaS.dropS
    rw [if_pos hh]
  rw [hS] at hwf ⊢
  have hkk : Kept (fun k => k = ib ∨ k = kb ∨ k = eb) w (put3 w2 eb (σ e.b) u v t) := ((hk1.mono (fun k _ e => .inl e)).and (hk2.mono (fun k _ e => .inr (.inl e)))).and (hk3.mono (fun k _ e => .inr (.inr e)))
  have hrn := RkS.n_rem S.rk x
  obtain ⟨cs, hbk, hl, hc⟩ := h.e
  rw [RkS.map_remS hinj, hb] at hr
  refine ⟨⟨hkk.blk h.b (by omega), ?_, ?_, ⟨_, put3_blk ((hk1.blk hbk (by omega)) |> fun z => hk2.blk z (by omega)) _ u v t, (by show _ = S.n * 3; simpa using hl), ?_⟩, hne, hwf⟩, hkk.mono (fun k _ e => by unfold lcF; omega)⟩
  · have : (({ S with E := dropE S.E x } : CaS).setR (S.rk.remS x)).rk = S.rk.remS x := by
      unfold CaS.setR CaS.rk at *
      generalize (RkS.mk S.T S.K S.n).remS x = R at *
      cases R
      simp at hrn
      subst hrn
      rfl
    rw [this]
    exact hr.keep hk3 (by omega)
  · have : ixs σ (({ S with E := dropE S.E x } : CaS).setR (S.rk.remS x)) = (ixs σ S).dropS e.b := by
      unfold ixs IxS.dropS
      simp only [prsE_drop, hb]
      rfl
    rw [this]
    exact (hx.keep hk2 (by omega)).keep hk3 (by omega)
  · intro z hz
    obtain ⟨hz1, hz2⟩ := dropE_mem.1 hz
    have hne2 : σ z.b ≠ σ e.b := fun e2 => hz2 (by rw [h.inj z hz1 e he e2]; exact hb)
    obtain ⟨c0, c1, c2⟩ := hc z hz1
    exact ⟨by rw [set3_off (by omega)]; exact c0, by rw [set3_off (by omega)]; exact c1, by rw [set3_off (by omega)]; exact c2⟩
set_option maxHeartbeats 1000000 in
theorem lcdrop_at (x : Int) (h : LcC w cb kb ib eb σ S) : Calls Try.prog 20 #[.pointer (some ⟨cb, 0, none⟩), .int .i64 x] w (LcTo cb kb ib eb (.bool (S.has x)) (S.dropS x) w) := by
  have HF := Lib.hid (lfindc_at x h)
  have HH := Lib.hid h
  cases hh : S.has x with
  | false =>
    have HE : Hid (∀ w', Below w.heap.size w w' → LcTo cb kb ib eb (.bool false) (S.dropS x) w (.returned (.bool false)) w') := Lib.hid (fun w' hb => by
      have hs : S.dropS x = S := by unfold CaS.dropS; rw [hh]; rfl
      rw [hs]
      exact ⟨rfl, ⟨σ, h.up hb⟩, Kept.of_below hb⟩)
    unfold FindIs at HF
    rw [slotOf_no hh, hh] at HF
    clear h hh
    go_enter Try.func20, Try.ntmps20
    go_wp2_with fail
    refine HF.out.mono ?_
    rintro r w' ⟨rfl, hb⟩
    have HB := Lib.hid hb
    clear hb
    go_wp2_with fail
    go_ret
    exact HE.out _ HB.out
  | true =>
    obtain ⟨e, he, hb, ha, hn⟩ := has_at hh
    unfold FindIs at HF
    rw [slotOf_yes hh hn, hh] at HF
    obtain ⟨hlt, _⟩ := h.slot he
    have hne := h.ne
    obtain ⟨b, heb⟩ : ∃ b, e.b = b := ⟨_, rfl⟩
    have h64 : b < 64 := by rw [← heb]; exact h.wf.b64 e he
    have HE : Hid (∀ w1, Below w.heap.size w w1 → ∀ w2, IxM w2 ib ((ixs σ S).dropS b) → Kept (fun k => k = ib) w1 w2 → ∀ w3, RkM w3 kb ((S.rk.map σ).remS (σ b : Int)) → Kept (fun k => k = kb) w2 w3 → ∀ u v t, LcTo cb kb ib eb (.bool true) (S.dropS x) w (.returned (.bool true)) (put3 w3 eb (σ b) u v t)) := Lib.hid (fun w1 hb1 w2 hx hk1 w3 hr hk2 u v t => by
      subst heb
      have := (h.up hb1).dropped (u := u) (v := v) (t := t) hh he hb hx hk1 hr hk2
      exact ⟨rfl, ⟨σ, this.1⟩, (Kept.of_below hb1).and this.2⟩)
    have HC1 : Hid (∀ w1, Below w.heap.size w w1 → w1.cell? ⟨cb, 1, none⟩ = some (.pointer (some ⟨ib, 0, none⟩)) ∧ IxM w1 ib (ixs σ S)) := Lib.hid (fun w1 hb1 => ⟨(h.up hb1).cells.2.1, (h.up hb1).x⟩)
    have HC2 : Hid (∀ w1, Below w.heap.size w w1 → ∀ w2, Kept (fun k => k = ib) w1 w2 → w2.cell? ⟨cb, 0, none⟩ = some (.pointer (some ⟨kb, 0, none⟩)) ∧ RkM w2 kb (S.rk.map σ)) := Lib.hid (fun w1 hb1 w2 hk1 => ⟨hk1.cell (h.up hb1).cells.1 (show ¬ cb = ib by omega), (h.up hb1).k.keep hk1 (by omega)⟩)
    obtain ⟨s, hs⟩ : ∃ s, σ e.b = s := ⟨_, rfl⟩
    have HC3 : Hid (∀ w1, Below w.heap.size w w1 → ∀ w2, Kept (fun k => k = ib) w1 w2 → ∀ w3, Kept (fun k => k = kb) w2 w3 → w3.cell? ⟨cb, 2, none⟩ = some (.slice (some ⟨eb, 0, none⟩) S.n S.n) ∧ w3.cell? ⟨eb, s * 3, none⟩ = some (.int .i64 (b : Int)) ∧ w3.cell? ⟨eb, s * 3 + 1, none⟩ = some (.int .u32 (e.a : Int)) ∧ w3.cell? ⟨eb, s * 3 + 2, none⟩ = some (.bool e.d) ∧ ∀ i, w3.frozen? ⟨eb, i, none⟩ = false) := Lib.hid (fun w1 hb1 w2 hk1 w3 hk2 => by
      have h1 := h.up hb1
      obtain ⟨_, c0, c1, c2⟩ := h1.slot he
      rw [hs] at c0 c1 c2
      rw [heb] at c0
      have hkk : Kept (fun k => k = ib ∨ k = kb) w1 w3 := (hk1.mono (fun k _ e => .inl e)).and (hk2.mono (fun k _ e => .inr e))
      obtain ⟨cs, hbk, _⟩ := h1.e
      exact ⟨hkk.cell h1.cells.2.2 (show ¬ (cb = ib ∨ cb = kb) by omega), hkk.cell c0 (show ¬ (eb = ib ∨ eb = kb) by omega), hkk.cell c1 (show ¬ (eb = ib ∨ eb = kb) by omega), hkk.cell c2 (show ¬ (eb = ib ∨ eb = kb) by omega), fun i => (hkk.blk hbk (by omega)).free i⟩)
    rw [hs] at HF hlt
    rw [heb] at hs
    rw [hs] at HE
    rw [heb] at hb
    have hn64 := h.wf.n64
    obtain ⟨n, hn'⟩ : ∃ n, S.n = n := ⟨_, rfl⟩
    rw [hn'] at hlt HC3 hn64
    generalize e.a = y0 at *
    generalize e.d = d0 at *
    have hw : IntKind.u32.wrap (b : Int) = (b : Int) := by
      rw [IntKind.wrap_u32]
      omega
    have HR2 : Hid (∀ w1, IxM w1 ib (ixs σ S) → Calls Try.prog 34 #[.pointer (some ⟨ib, 0, none⟩), .int .u32 (b : Int)] w1 (IxTo ib ((ixs σ S).has b) ((ixs σ S).dropS b) w1)) := Lib.hid (fun w1 h1 => xdrop_at b h1)
    have HR3 : Hid (∀ w1, RkM w1 kb (S.rk.map σ) → Calls Try.prog 35 #[.pointer (some ⟨kb, 0, none⟩), .int .i64 (s : Int)] w1 (RkTo kb ((S.rk.map σ).has (s : Int)) ((S.rk.map σ).remS (s : Int)) w1)) := Lib.hid (fun w1 h1 => lremove_at (s : Int) h1)
    subst hb
    clear h hh ha hn hn' he hne heb hs HH
    go_enter Try.func20, Try.ntmps20
    go_wp2_with fail
    refine HF.out.mono ?_
    rintro r w1 ⟨rfl, hb⟩
    have HB := Lib.hid hb
    obtain ⟨g1, hx1⟩ := HC1.out _ hb
    have HX := Lib.hid (HR2.out _ hx1)
    clear hb hx1 HF HC1 HR2
    go_wp2_with fail
    refine HX.out.mono ?_
    rintro r w2 ⟨rfl, hx2, hk2⟩
    have HX2 := Lib.hid hx2
    have HK2 := Lib.hid hk2
    obtain ⟨g0, hr2⟩ := HC2.out _ HB.out _ hk2
    have HR := Lib.hid (HR3.out _ hr2)
    clear hx2 hk2 hr2 HX HC2 HR3 g1
    generalize (ixs σ S).has b = q1
    go_wp2_with fail
    refine HR.out.mono ?_
    rintro r w3 ⟨rfl, hr3, hk3⟩
    obtain ⟨c2, e0, e1, e2, ef⟩ := HC3.out _ HB.out _ HK2.out _ hk3
    have f0 := ef (s * 3)
    have f1 := ef (s * 3 + 1)
    have f2 := ef (s * 3 + 2)
    have HEE := Lib.hid (HE.out _ HB.out _ HX2.out HK2.out _ hr3 hk3)
    unfold put3 at HEE
    clear hr3 hk3 HR HC3 HE HB HX2 HK2 g0 ef
    generalize (S.rk.map σ).has (s : Int) = q2
    go_wp2_with fail
    go_ret
    exact HEE.out _ _ _
end
end Go.Proofs.Ytmoagooabmmmgaa
