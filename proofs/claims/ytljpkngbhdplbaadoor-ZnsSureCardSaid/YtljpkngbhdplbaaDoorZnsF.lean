/-
  The document's device: Read.
-/
import Derived.Test.YtljpkngbhdplbaaDoorZnsE
namespace Go.Proofs.YtljpkngbhdplbaaDoor
open Go.RowKit

/-- The value v is a slice that reads as these bytes. -/
def BytV (w : World) (v : Value) (xs : List Int) : Prop := ∃ A c, v = .slice A xs.length c ∧ xs.length ≤ c ∧ Rd w w.heap.size A xs ∧ (A = none → c = 0)
theorem BytV.nil (w : World) : BytV w (.slice none 0 0) [] := ⟨none, 0, rfl, by simp, Rd.nil, fun _ => rfl⟩
theorem BytV.up {w u : World} {v : Value} {xs : List Int} (h : BytV w v xs) (hb : Below w.heap.size w u) : BytV u v xs := by
  obtain ⟨A, c, e, hc, hr, h0⟩ := h
  exact ⟨A, c, e, hc, rd_up hr hb, h0⟩
theorem R8v {w : World} {base : Nat} {v : Value} {xs : List Int} (h : w.ownsRow base 5 1 v xs.length (cellsOf8 xs)) : BytV w v xs := by
  rcases h.2 with ⟨rfl, h0⟩ | ⟨g, cap, cur, rfl, _, _, hn, _⟩
  · have e : xs = [] := List.eq_nil_of_length_eq_zero h0
    subst e
    exact BytV.nil w
  · obtain ⟨A, c, e, hc, hr⟩ := Rd.of_own h
    injection e with e1 e2 e3
    subst e1 e3
    exact ⟨_, _, rfl, hc, hr, fun e => by cases e⟩
/-- Bytes that were made behind w. -/
def BytN (w w' : World) (v : Value) (xs : List Int) : Prop := BytF (fun k => w.heap.size ≤ k ∧ k < w'.heap.size) w' v xs
theorem BytN.nil (w w' : World) : BytN w w' (.slice none 0 0) [] := ⟨none, 0, rfl, by simp, Rd.nil, (InF.none _).n, fun _ => rfl⟩
def ReadOf (xs : List Int) (e : Int) (w : World) (r : Ending) (w' : World) : Prop := ∃ v, r = .returned (.tuple #[v, .int .i64 e]) ∧ BytN w w' v xs ∧ Below w.heap.size w w'
theorem ReadOf.none (e : Int) (w w' : World) (hb : Below w.heap.size w w') : ReadOf [] e w (.returned (.tuple #[.slice none 0 0, .int .i64 e])) w' := ⟨_, rfl, BytN.nil _ _, hb⟩
theorem readB_no {S : DevS} {n p e : Int} (h : S.readE n p = e) (he : e ≠ 0) : S.readB n p = [] := by unfold DevS.readB; rw [if_neg (by rw [h]; exact he)]

set_option maxHeartbeats 1000000 in
set_option maxRecDepth 100000 in
theorem rread_at {F : Nat → Prop} {w : World} {db zb cap : Nat} {zs : List Value} {S : DevS} (n p : Int) (h : RD F w db zb cap zs S) : Calls Tryd.prog 38 #[.pointer (some ⟨db, 0, none⟩), .int .i64 n, .int .i64 p] w (ReadOf (S.readB n p) (S.readE n p) w) := by
  have HH := Lib.hid h
  have c4 := h.c4
  by_cases hg : S.gone = true
  · have HE : Hid (S.readE n p = 7) := Lib.hid (by unfold DevS.readE; rw [if_pos hg])
    have HB := Lib.hid (readB_no HE.out (by decide))
    rw [hg] at c4
    clear h hg
    go_enter Tryd.func38, Tryd.ntmps38
    go_wp2_with fail
    go_ret2
    rw [HE.out, HB.out]
    exact ReadOf.none 7 w w (Below.refl _ _)
  · have hg2 : S.gone = false := by simpa using hg
    rw [hg2] at c4
    have c0 := h.c0
    have c1 := h.c1
    by_cases hi : S.is n = true
    · obtain ⟨i, rfl⟩ := Int.eq_ofNat_of_zero_le (DevS.is_iff.1 hi).1
      have HI := Lib.hid hi
      by_cases hp0 : p < 0
      · have HE : Hid (S.readE (i : Int) p = 1) := Lib.hid (by simp [DevS.readE, hg2, hp0])
        have HB := Lib.hid (readB_no HE.out (by decide))
        clear h hg hg2 hi
        go_enter Tryd.func38, Tryd.ntmps38
        go_wp2_with fail
        refine (ris_at _ HH.out).mono ?_
        rintro r w' ⟨rfl, rfl⟩
        rw [HI.out]
        go_wp2_with fail
        go_ret2
        rw [HE.out, HB.out]
        exact ReadOf.none 1 w w (Below.refl _ _)
      · by_cases hp1 : (S.P : Int) ≤ p
        · have HE : Hid (S.readE (i : Int) p = 1) := Lib.hid (by simp [DevS.readE, hg2, hp1])
          have HB := Lib.hid (readB_no HE.out (by decide))
          generalize S.P = P at *
          clear h hg hg2 hi
          go_enter Tryd.func38, Tryd.ntmps38
          go_wp2_with fail
          refine (ris_at _ HH.out).mono ?_
          rintro r w' ⟨rfl, rfl⟩
          rw [HI.out]
          go_wp2_with fail
          go_ret2
          rw [HE.out, HB.out]
          exact ReadOf.none 1 w w (Below.refl _ _)
        · obtain ⟨j, rfl⟩ := Int.eq_ofNat_of_zero_le (show 0 ≤ p by omega)
          obtain ⟨v, k0, _, _, hrows, hrl, hlt, _⟩ := h.zone i hi
          obtain ⟨A, c, vs, rfl, hc, hrv, hf, hA0, hvl, hx⟩ := hrows.out
          have hpl := (h.wf.pages _ (DevS.zone_mem hi)).1
          have hp16 := h.wf.p1
          have hpg := (h.wf.pages _ (DevS.zone_mem hi)).2.2
          have hjP : j < S.P := by omega
          obtain ⟨Z, hZ⟩ : ∃ Z, (S.zone (i : Int)).pages = Z := ⟨_, rfl⟩
          have HZ := Lib.hid hZ
          rw [hZ] at k0 hc hvl hx hpl hpg
          obtain ⟨m, hm⟩ : ∃ m, Z.length = m := ⟨_, rfl⟩
          rw [hm] at k0 hc hvl hpl
          by_cases hjm : m ≤ j
          · have HE : Hid (S.readE (i : Int) (j : Int) = 8) := Lib.hid (by
              have h1 : ¬ (S.P : Int) ≤ (j : Int) := hp1
              simp [DevS.readE, hg2, hi, HZ.out, hm]
              omega)
            have HB := Lib.hid (readB_no HE.out (by decide))
            generalize S.P = P at *
            clear h hg hg2 hi hrows hx hrv hf hA0 hpg hZ
            go_enter Tryd.func38, Tryd.ntmps38
            go_wp2_with fail
            refine (ris_at _ HH.out).mono ?_
            rintro r w' ⟨rfl, rfl⟩
            rw [HI.out]
            go_wp2_with fail
            go_ret2
            rw [HE.out, HB.out]
            exact ReadOf.none 8 w w (Below.refl _ _)
          · have hjm2 : j < m := by omega
            obtain ⟨b, o, rfl, hbl, hcell⟩ := hrv (by omega)
            have cj := hcell j (by omega)
            obtain ⟨A1, c1', e1, hc1, hr1, _, h01⟩ := hx j (by omega) (by omega)
            rw [e1] at cj
            have hgd : Z.getD j [] = Z[j]'(by omega) := by simp [List.getD_eq_getElem?_getD, List.getElem?_eq_getElem (show j < Z.length by omega)]
            have hp33 := hpg _ (List.getElem_mem (show j < Z.length by omega))
            have HEE : Hid (S.readE (i : Int) (j : Int) = if (Z[j]'(by omega)).length = 0 then 6 else 0) := Lib.hid (by
              have h1 : ¬ (S.P : Int) ≤ (j : Int) := hp1
              have h2 : ¬ (m : Int) ≤ (j : Int) := by omega
              have h3 : ¬ S.P ≤ j := by omega
              have h4 : ¬ m ≤ j := by omega
              simp only [DevS.readE, hg2, hi, HZ.out, hm, Int.toNat_natCast, hgd]
              simp [h3, h4]
              intro hneg
              omega)
            have HBB : Hid (S.readE (i : Int) (j : Int) = 0 → S.readB (i : Int) (j : Int) = Z[j]'(by omega)) := Lib.hid (fun he => by
              unfold DevS.readB
              rw [if_pos he, HZ.out, Int.toNat_natCast, hgd])
            have HR1 := Lib.hid hr1
            have H01 := Lib.hid h01
            generalize Z[j]'(by omega) = x at *
            by_cases hx0 : x.length = 0
            · have HE : Hid (S.readE (i : Int) (j : Int) = 6) := Lib.hid (by rw [HEE.out, if_pos hx0])
              have HB := Lib.hid (readB_no HE.out (by decide))
              rw [hx0] at cj
              generalize S.P = P at *
              clear h hg hg2 hi hrows hx hrv hf hA0 hpg hZ hcell hr1 h01 e1 hgd HEE HBB hp33
              go_enter Tryd.func38, Tryd.ntmps38
              go_wp2_with fail
              refine (ris_at _ HH.out).mono ?_
              rintro r w' ⟨rfl, rfl⟩
              rw [HI.out]
              go_wp2_with fail
              go_ret2
              rw [HE.out, HB.out]
              exact ReadOf.none 6 w w (Below.refl _ _)
            · have HE : Hid (S.readE (i : Int) (j : Int) = 0) := Lib.hid (by rw [HEE.out, if_neg hx0])
              have HB := Lib.hid (HBB.out HE.out)
              have hx33 : x.length = 33 := by omega
              have HX := Lib.hid hx33
              rw [hx33] at cj
              have HO := Lib.hid (Own8.none w w.heap.size (Nat.le_refl _))
              have HBE := Lib.hid (Below.alloc (Below.refl w.heap.size w) (Nat.le_refl _) (.cells #[] 5))
              have c0a := (HBE.out.cell (p := ⟨db, 0, none⟩) (lt_of_block HH.out.dev)).trans c0
              have k0a := (HBE.out.cell (p := ⟨zb, i * 3, none⟩) (lt_of_block HH.out.blk)).trans k0
              have cja := (HBE.out.cell (p := ⟨b, o + j, none⟩) hbl).trans cj
              generalize S.P = P at *
              clear h hg hg2 hi hrows hx hrv hf hA0 hpg hZ hcell hr1 h01 e1 hgd HEE HBB hp33 hx0 hx33
              go_enter Tryd.func38, Tryd.ntmps38
              go_wp2_with fail
              refine (ris_at _ HH.out).mono ?_
              rintro r w' ⟨rfl, rfl⟩
              rw [HI.out]
              go_wp2_with (first
                | (at_builtin; refine app8 _ rfl (.tmp 52) (.tmp 63) rfl w.heap.size w.heap.size w.heap.size 0 0 33 c1' [] x A1 rfl HO.out rfl rfl (HR1.out.below HBE.out) HX.out H01.out ?h1a ?h1b ?h1c ?_; (case h1a => omega); (case h1b => omega); (case h1c => exact HBE.out.size); intro g3 cap3 w3 hown hgr; have HO3 := Lib.hid (show Own8 w3 w.heap.size g3 cap3 x from hown); have HB3 := Lib.hid (HBE.out.grown hgr HBE.out.size (fun q hq => by have := Option.some.inj hq; omega)); clear hown hgr)
                | fail)
              go_ret2
              rw [HE.out, HB.out]
              have hcp := HO3.out.cap
              have hmm := HO3.out.ownG.mem
              exact ⟨_, rfl, ⟨some ⟨g3, 0, none⟩, cap3, by rw [HX.out]; rfl, hcp, HO3.out.rd, (InF.one hmm).n, fun e => by cases e⟩, HB3.out⟩
    · have HI : Hid (S.is n = false) := Lib.hid (by simpa using hi)
      have HE : Hid (S.readE n p = 1) := Lib.hid (by simp [DevS.readE, hg2, HI.out])
      have HB := Lib.hid (readB_no HE.out (by decide))
      clear h hg hg2 hi
      go_enter Tryd.func38, Tryd.ntmps38
      go_wp2_with fail
      refine (ris_at _ HH.out).mono ?_
      rintro r w' ⟨rfl, rfl⟩
      rw [HI.out]
      go_wp2_with fail
      go_ret2
      rw [HE.out, HB.out]
      exact ReadOf.none 1 w w (Below.refl _ _)
end Go.Proofs.YtljpkngbhdplbaaDoor
