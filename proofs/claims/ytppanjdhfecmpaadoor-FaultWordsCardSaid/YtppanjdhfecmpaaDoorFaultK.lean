/-
  platelayerlaw01.made: an error of a code, wrapped by steps, the first one first; and the document's fault beside it.
-/
import Derived.Test.YtppanjdhfecmpaaDoorFaultJ
namespace Go.Proofs.YtppanjdhfecmpaaDoor
open Go.RowKit Go.Extern.Stop Go.Stop Go.Extern

/-- All blocks but F are as they were. -/
structure But (F : Nat) (w w' : World) : Prop where
  size : w.heap.size ≤ w'.heap.size
  block : ∀ b, b < w.heap.size → b ≠ F → w'.heap[b]? = w.heap[b]?
theorem But.cell {F : Nat} {w w' : World} (h : But F w w') {p : Addr} (hp : p.block < w.heap.size) (hF : p.block ≠ F) : w'.cell? p = w.cell? p := World.cell?_of_block (h.block p.block hp hF)
theorem But.set {F : Nat} (w : World) (i : Nat) (u : Value) : But F w (w.setCell ⟨F, i, none⟩ u) :=
  ⟨by simp [World.setCell], fun b _ hF => Below.heap_setCell w _ u b hF⟩
theorem But.trans {F : Nat} {a b c : World} (h : But F a b) (k : But F b c) : But F a c := ⟨Nat.le_trans h.size k.size, fun i hi hF => (k.block i (Nat.lt_of_lt_of_le hi h.size) hF).trans (h.block i hi hF)⟩

theorem Err.but {F : Nat} {w w' : World} {e : Int} {A : Option Addr} {n c : Nat} {y : Value} (hF : Rf w F (.slice A n c) y) (hb : But F w w') : ∀ {l : List (ByteArray × Int)} {v : Value}, Err w e l v → Err w' e l v
  | [], _, h => h
  | _ :: _, _, ⟨b, u, hv, hlt, h0, h1, h2, hr⟩ => by
    have hne : b ≠ F := by
      rintro rfl
      rw [hF.cell 0] at h0
      simp at h0
    exact ⟨b, u, hv, Nat.lt_of_lt_of_le hlt hb.size, (hb.cell (p := ⟨b, 0, none⟩) hlt hne).trans h0, (hb.cell (p := ⟨b, 1, none⟩) hlt hne).trans h1, (hb.cell (p := ⟨b, 2, none⟩) hlt hne).trans h2, Err.but hF hb hr⟩
theorem Steps.but {F : Nat} {w w' : World} {A A' : Option Addr} {n c : Nat} {y : Int} {l : List (ByteArray × Int)} (hF : Rf w F (.slice A n c) (.int .i64 y)) (hb : But F w w') (h : Steps w w.heap.size A' l) : Steps w' w'.heap.size A' l := by
  intro hp
  obtain ⟨b, o, hA, hlt, hc⟩ := h hp
  have hne : b ≠ F := by
    rintro rfl
    have h0 := (hc 0 hp).1
    rw [hF.cell] at h0
    rcases o with _ | _ | o <;> simp at h0
  exact ⟨b, o, hA, Nat.lt_of_lt_of_le hlt hb.size, fun i hi => ⟨(hb.cell (p := ⟨b, o + i * 2, none⟩) hlt hne).trans (hc i hi).1, (hb.cell (p := ⟨b, o + i * 2 + 1, none⟩) hlt hne).trans (hc i hi).2⟩⟩

theorem wrap_err {w : World} {e : Int} {l : List (ByteArray × Int)} {v : Value} (op : ByteArray) (n : Int) (he : (e == 0) = false) (h : Err w e l v) :
    Calls Tryd.prog 16 #[.string op, .int .i64 n, v] w fun r w' => ∃ v', r = .returned v' ∧ Err w' e ((op, n) :: l) v' ∧ Below w.heap.size w w' := by
  have hw := h.wrapped op n
  cases l with
  | nil =>
    obtain rfl : v = _ := h
    refine (wrap_errno op n e w he).mono ?_
    rintro r w' ⟨rfl, rfl⟩
    exact ⟨_, rfl, hw, (Below.refl _ _).alloc (Nat.le_refl _) _⟩
  | cons s l =>
    obtain ⟨b, u, rfl, _⟩ := h
    refine (wrap_fault op n _ w).mono ?_
    rintro r w' ⟨rfl, rfl⟩
    exact ⟨_, rfl, hw, (Below.refl _ _).alloc (Nat.le_refl _) _⟩
theorem rwrap_err {w : World} {e : Int} {l : List (ByteArray × Int)} {A : Option Addr} {c : Nat} (op : ByteArray) (n : Int) (he : (e == 0) = false) (hl : l.length ≤ 1000) (h0 : l = [] → A = none ∧ c = 0) (hs : Steps w w.heap.size A l) :
    Calls Tryd.prog 20 #[.string op, .int .i64 n, .agg #[.slice A l.length c, .int .i64 e]] w (RWrapIs w e ((op, n) :: l)) := by
  rcases Nat.eq_zero_or_pos l.length with hz | hp
  · obtain rfl := List.eq_nil_of_length_eq_zero hz
    obtain ⟨rfl, rfl⟩ := h0 rfl
    exact rwrap_nil op n e w he
  · exact rwrap_more op n e w he A l c hp hl hs

theorem Steps.up {w w' : World} {A : Option Addr} {l : List (ByteArray × Int)} (h : Steps w w.heap.size A l) (hb : Below w.heap.size w w') : Steps w' w'.heap.size A l := by
  intro hp
  obtain ⟨b, o, hA, hlt, hc⟩ := h.below hb hp
  exact ⟨b, o, hA, Nat.lt_of_lt_of_le hlt hb.size, hc⟩

def MadeIs (w : World) (e : Int) (l : List (ByteArray × Int)) (r : Ending) (w' : World) : Prop :=
  ∃ (v : Value) (A : Option Addr) (c : Nat), r = .returned (.tuple #[v, .agg #[.slice A l.length c, .int .i64 e]]) ∧ Err w' e l.reverse v ∧ Steps w' w'.heap.size A l.reverse ∧ Below w.heap.size w w'

def MadeAt (w : World) (e : Int) (l : List (ByteArray × Int)) (k : Nat) (err i : Value) (wr : World) : Prop :=
  ∃ (j : Nat) (A : Option Addr) (c : Nat), j ≤ l.length ∧ k = l.length - j ∧ i = .int .i64 j ∧ ((l.take j).reverse = [] → A = none ∧ c = 0) ∧ Err wr e (l.take j).reverse err ∧ Steps wr wr.heap.size A (l.take j).reverse ∧
    Rf wr w.heap.size (.slice none 0 0) (.int .i64 0) ∧ Rf wr (w.heap.size + 1) (.slice A j c) (.int .i64 e) ∧ Below w.heap.size w wr

/-- What the round's last store leaves. -/
theorem made_step {w w3 : World} {e : Int} {l : List (ByteArray × Int)} {j c c' : Nat} {A A' : Option Addr} {op : ByteArray} {at_ : Int} {v : Value} (hj : j < l.length) (hst : l[j] = (op, at_))
    (herr : Err w3 e ((op, at_) :: (l.take j).reverse) v) (hsteps : Steps w3 w3.heap.size A' ((op, at_) :: (l.take j).reverse)) (hR : Rf w3 w.heap.size (.slice none 0 0) (.int .i64 0)) (hF : Rf w3 (w.heap.size + 1) (.slice A j c) (.int .i64 e)) (hb : Below w.heap.size w w3) :
    MadeAt w e l (l.length - (j + 1)) v (.int .i64 ((j + 1 : Nat) : Int)) ((w3.setCell ⟨w.heap.size + 1, 0, none⟩ (.slice A' (j + 1) c')).setCell ⟨w.heap.size + 1, 1, none⟩ (.int .i64 e)) := by
  have hbut : But (w.heap.size + 1) w3 ((w3.setCell ⟨w.heap.size + 1, 0, none⟩ (.slice A' (j + 1) c')).setCell ⟨w.heap.size + 1, 1, none⟩ (.int .i64 e)) := (But.set _ _ _).trans (But.set _ _ _)
  refine ⟨j + 1, A', c', by omega, rfl, rfl, ?_, ?_, ?_, ?_, ?_, ?_⟩
  · rw [take_rev l j hj]; intro h; cases h
  · rw [take_rev l j hj, hst]; exact herr.but hF hbut
  · rw [take_rev l j hj, hst]; exact hsteps.but hF hbut
  · exact (hR.far (p := ⟨w.heap.size + 1, 0, none⟩) (by simp) _).far (p := ⟨w.heap.size + 1, 1, none⟩) (by simp) _
  · exact (hF.set0 _).set1 _
  · exact (hb.setCell (by simp) _).setCell (by simp) _

theorem made_end {w wr : World} {e : Int} {l : List (ByteArray × Int)} {c1 : Nat} {A1 : Option Addr} {v : Value} {u1 u2 : Value} (herr : Err wr e (l.take l.length).reverse v) (hst : Steps wr wr.heap.size A1 (l.take l.length).reverse)
    (hR : Rf wr w.heap.size (.slice none 0 0) (.int .i64 0)) (hb : Below w.heap.size w wr) :
    MadeIs w e l (.returned (.tuple #[v, .agg #[.slice A1 l.length c1, .int .i64 e]])) ((wr.setCell ⟨w.heap.size, 0, none⟩ u1).setCell ⟨w.heap.size, 1, none⟩ u2).drew := by
  rw [List.take_length] at herr hst
  have hbut : But w.heap.size wr ((wr.setCell ⟨w.heap.size, 0, none⟩ u1).setCell ⟨w.heap.size, 1, none⟩ u2) := (But.set _ _ _).trans (But.set _ _ _)
  exact ⟨v, A1, c1, rfl, (herr.but hR hbut).below (Below.refl _ _).drew, (hst.but hR hbut).up (Below.refl _ _).drew, ((hb.setCell (by simp) _).setCell (by simp) _).drew⟩

set_option maxHeartbeats 1000000 in
theorem made_err {w : World} (e : Int) (he : (e == 0) = false) (A : Option Addr) (l : List (ByteArray × Int)) (c : Nat) (hl : l.length ≤ 100) (hs : Steps w w.heap.size A l) :
    Calls Tryd.prog 8 #[.int .i64 e, .slice A l.length c] w (MadeIs w e l) := by
  have HS := Lib.hid hs
  clear hs
  have he' : (e != 0) = true := by simp [bne, he]
  go_enter Tryd.func8, Tryd.ntmps8
  go_wp2_with fail
  go_loopg [6, 18] l.length (fun k err i wr => MadeAt w e l k err i wr)
  case atStart =>
    refine ⟨0, none, 0, by omega, by omega, rfl, fun _ => ⟨rfl, rfl⟩, rfl, fun h => by simp at h, (Rf.new _ _ _).alloc _, ?_, ((Below.refl _ _).alloc (Nat.le_refl _) _).alloc (by simp) _⟩
    have := Rf.new (w.alloc (.cells #[.slice none 0 0, .int .i64 0] 29)) (.slice none 0 0) (.int .i64 e)
    rw [World.size_alloc] at this
    exact this
  case round =>
    obtain ⟨j, A1, c1, hj, hk, rfl, h00, herr, hst, hR, hF, hb⟩ := hrel
    have HK := Lib.hid hk
    have HB := Lib.hid hb
    have HE := Lib.hid herr
    have HT := Lib.hid hst
    have HR := Lib.hid hR
    have HF := Lib.hid hF
    have H0 := Lib.hid h00
    have hsz := hb.size
    have hFl := hF.lt
    clear hk herr hst hb hR h00 hF
    by_cases hlt : j < l.length
    · obtain ⟨b, o, rfl, hbl, hcell⟩ := (HS.out.below HB.out) (by omega)
      obtain ⟨g1, g2⟩ := hcell j hlt
      clear hcell
      generalize hs : l[j] = st at *
      obtain ⟨op, at_⟩ := st
      have HST := Lib.hid hs
      clear hs
      dsimp only at g1 g2
      have hbA : Below wr.heap.size wr (wr.alloc (.cells #[.string op, .int .i64 at_] 44)) := (Below.refl _ _).alloc (Nat.le_refl _) _
      have HBA := Lib.hid hbA
      clear hbA
      go_wp2_with fail
      refine (wrap_err op at_ he (HE.out.below HBA.out)).mono ?_
      rintro r w2 ⟨v2, rfl, herr2, hb2⟩
      have HE2 := Lib.hid herr2
      have HB2 := Lib.hid hb2
      have t0 : w2.cell? ⟨wr.heap.size, 0, none⟩ = some (.string op) := (hb2.cell (p := ⟨wr.heap.size, 0, none⟩) (by simp)).trans (by simp)
      have t1 : w2.cell? ⟨wr.heap.size, 1, none⟩ = some (.int .i64 at_) := (hb2.cell (p := ⟨wr.heap.size, 1, none⟩) (by simp)).trans (by simp)
      have hF2 : Rf w2 (w.heap.size + 1) (.slice A1 j c1) (.int .i64 e) := ((HF.out.alloc _).below hb2 (by simp; omega))
      have f0 : w2.cell? ⟨w.heap.size + 1, 0, none⟩ = some (.slice A1 j c1) := hF2.cell 0
      have f1 : w2.cell? ⟨w.heap.size + 1, 1, none⟩ = some (.int .i64 e) := hF2.cell 1
      have HF2 := Lib.hid hF2
      have hz2 : wr.heap.size + 1 ≤ w2.heap.size := by have := hb2.size; simpa using this
      clear herr2 hb2 hF2
      go_wp2_with fail
      have hlen : (l.take j).reverse.length = j := by simp; omega
      have hcall := rwrap_err (w := w2) (A := A1) (c := c1) op at_ he (by rw [hlen]; omega) H0.out ((HT.out.up HBA.out).up HB2.out)
      rw [hlen] at hcall
      refine hcall.mono ?_
      rintro r w3 ⟨A3, c3, rfl, _, hst3, hb3⟩
      have hl3 : ((op, at_) :: (l.take j).reverse).length = j + 1 := by rw [List.length_cons, hlen]
      rw [hl3]
      have hF3 := HF2.out.below hb3 HF2.out.lt
      have k0 : w3.cell? ⟨w.heap.size + 1, 0, none⟩ = some (.slice A1 j c1) := hF3.cell 0
      have k1 : w3.cell? ⟨w.heap.size + 1, 1, none⟩ = some (.int .i64 e) := hF3.cell 1
      have k2 := hF3.frozen 0
      have k3 := hF3.frozen 1
      have HW := Lib.hid (made_step (c' := c3) hlt HST.out (HE2.out.below hb3) hst3 ((HR.out.alloc _).below (below_all HB2.out hb3) (by simp; omega)) hF3 (below_all HB.out (below_all HBA.out (below_all HB2.out hb3))))
      clear hl3 hF3 hcall hst3 hb3 hlen
      go_wp2_with fail
      go_roundg (l.length - (j + 1))
      case rel => simpa using HW.out
      case measure => rw [HK.out]; omega
    · obtain rfl : j = l.length := by omega
      have k0 : wr.cell? ⟨w.heap.size + 1, 0, none⟩ = some (.slice A1 l.length c1) := HF.out.cell 0
      have k1 : wr.cell? ⟨w.heap.size + 1, 1, none⟩ = some (.int .i64 e) := HF.out.cell 1
      have r0 : wr.cell? ⟨w.heap.size, 0, none⟩ = some (.slice none 0 0) := HR.out.cell 0
      have r1 : wr.cell? ⟨w.heap.size, 1, none⟩ = some (.int .i64 0) := HR.out.cell 1
      have r2 := HR.out.frozen 0
      have r3 := HR.out.frozen 1
      go_wp2_with fail
      go_region
      have HX := Lib.hid ((HR.out.set0 (.slice A1 l.length c1)).set1 (.int .i64 e))
      have x0 : ((wr.setCell ⟨w.heap.size, 0, none⟩ (.slice A1 l.length c1)).setCell ⟨w.heap.size, 1, none⟩ (.int .i64 e)).cell? ⟨w.heap.size, 0, none⟩ = some (.slice A1 l.length c1) := HX.out.cell 0
      have x1 : ((wr.setCell ⟨w.heap.size, 0, none⟩ (.slice A1 l.length c1)).setCell ⟨w.heap.size, 1, none⟩ (.int .i64 e)).cell? ⟨w.heap.size, 1, none⟩ = some (.int .i64 e) := HX.out.cell 1
      go_wp2
      refine bodyPost_ret (v := .tuple #[u6, .agg #[.slice A1 l.length c1, .int .i64 e]]) (by simp [results, Tryd.results8, go_sem, x0, x1]) rfl ?_
      exact made_end HE.out HT.out HR.out HB.out
end Go.Proofs.YtppanjdhfecmpaaDoor
