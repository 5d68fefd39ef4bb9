/-
  The document's device: Append.
-/
import Derived.Test.YthmpimjmajoimaaGreatDoorSw05
namespace Go.Proofs.YthmpimjmajoimaaGreatDoor
open Go.RowKit

def AppIs (F : Nat → Prop) (db : Nat) (S' : DevS) (n e : Int) (w : World) (r : Ending) (w' : World) : Prop := r = .returned (.tuple #[.int .i64 n, .int .i64 e]) ∧ RDev (grow F w w') w' db S' ∧ Kept F w w'
theorem app_no {S : DevS} {n e : Int} {b : List Int} (h : S.appE n b = e) (he : S.mayE e ≠ 0) : S.app n b = S.mayS e ∧ S.appN n b = 0 := by
  unfold DevS.app DevS.appN
  rw [h, if_neg he, if_neg he]
  exact ⟨rfl, rfl⟩
theorem app_yes {S : DevS} {n : Int} {b : List Int} (h : S.appE n b = 0) (he : S.mayE 0 = 0) : S.app n b = (S.mayS 0).put n { S.zone n with pages := (S.zone n).pages ++ [b] } ∧ S.appN n b = (S.zone n).pages.length := by
  unfold DevS.app DevS.appN
  rw [h, if_pos he, if_pos he]
  exact ⟨rfl, rfl⟩
theorem RowV.apart {w : World} {b1 b2 : Nat} {T1 T2 : TypeId} {v1 v2 : Value} {vs1 vs2 : List Value} (h1 : RowV w b1 T1 v1 vs1) (h2 : RowV w b2 T2 v2 vs2) (hT : T1 ≠ T2) : ∀ g, v1.ownBlock = some g → some g ≠ v2.ownBlock := by
  intro g hg e
  rcases h1.2 with ⟨rfl, _⟩ | ⟨g1, _, _, rfl, _, hb1, _⟩
  · cases hg
  · rcases h2.2 with ⟨rfl, _⟩ | ⟨g2, _, _, rfl, _, hb2, _⟩
    · cases e
    · simp [Value.ownBlock] at hg e
      subst hg e
      rw [hb1] at hb2
      have := Option.some.inj hb2
      injection this with _ e2
      exact hT e2
theorem rdv_one (w : World) (v : Value) (T : TypeId) : RdV (w.alloc (.cells #[v] T)) (w.alloc (.cells #[v] T)).heap.size (some ⟨w.heap.size, 0, none⟩) [v] := by
  intro _
  refine ⟨w.heap.size, 0, rfl, by rw [World.size_alloc]; omega, fun i hi => ?_⟩
  have hi' : i < 1 := hi
  obtain rfl : i = 0 := by omega
  simp
theorem nil_app_len {xs : List Value} {n : Nat} (h : xs.length = n) : (([] : List Value) ++ xs).length = n := h
theorem app_one_len {xs : List Value} {x : Value} {n : Nat} (h : xs.length = n) : (xs ++ [x]).length = n + 1 := by simp [h]
/-- Rows' cells are one cell each. -/
theorem rows_one {F : Nat → Prop} {w : World} {vs : List Value} {l : List (List Int)} (hl : vs.length = l.length) (hx : ∀ i (h : i < vs.length) (h2 : i < l.length), BytF F w vs[i] l[i]) : ∀ u ∈ vs, u.oneCell' = true := by
  intro u hu
  obtain ⟨i, hi, rfl⟩ := List.getElem_of_mem hu
  obtain ⟨A, c, e, _⟩ := hx i hi (by omega)
  rw [e]
  rfl

theorem rappend_no1 {F : Nat → Prop} {w : World} {db zb cap : Nat} {zs : List Value} {S : DevS} (n : Int) (A : Option Addr) (m c : Nat) (b : List Int) (h : RD F w db zb cap zs S) (hd : S.done ≤ 1000000) (_hm : b.length = m) (hi : S.is n = false) : Calls Tryz.prog 43 #[.pointer (some ⟨db, 0, none⟩), .int .i64 n, .slice A m c] w (AppIs F db (S.app n b) (S.appN n b) (S.mayE (S.appE n b)) w) := by
  have HH := Lib.hid h
  have HI := Lib.hid hi
  have HR : Hid (S.appE n b = 1) := Lib.hid (by simp [DevS.appE, hi])
  have HE := Lib.hid (mayE_pos (S := S) (e := 1) (by decide))
  have HA := Lib.hid (app_no HR.out HE.out)
  have qe : (S.mayE 1 != 0) = true := by simpa using HE.out
  obtain ⟨me, hme⟩ : ∃ me, S.mayE 1 = me := ⟨_, rfl⟩
  have HME := Lib.hid hme
  rw [hme] at qe
  clear h hme hi
  go_enter Tryz.func43, Tryz.ntmps43
  go_wp2_with fail
  refine (ris_at _ HH.out).mono ?_
  rintro r w' ⟨rfl, rfl⟩
  rw [HI.out]
  go_wp2_with fail
  refine (rmay_at 1 HH.out hd).mono ?_
  rintro r w1 ⟨rfl, hr, hk⟩
  have H1 := Lib.hid hr
  have HK := Lib.hid hk
  clear hr hk
  rw [HME.out]
  go_wp2_with fail
  go_ret2
  have hdn := done_not (_e := me) H1.out HK.out HA.out.1.symm
  exact ⟨by rw [HA.out.2, HR.out, HME.out]; rfl, hdn.1, hdn.2⟩

theorem rappend_no2 {F : Nat → Prop} {w : World} {db zb cap : Nat} {zs : List Value} {S : DevS} (n : Int) (A : Option Addr) (m c : Nat) (b : List Int) (h : RD F w db zb cap zs S) (hd : S.done ≤ 1000000) (hm : b.length = m) (hi : S.is n = true) (h33 : m ≠ 33) : Calls Tryz.prog 43 #[.pointer (some ⟨db, 0, none⟩), .int .i64 n, .slice A m c] w (AppIs F db (S.app n b) (S.appN n b) (S.mayE (S.appE n b)) w) := by
  have HH := Lib.hid h
  have HI := Lib.hid hi
  have HR : Hid (S.appE n b = 1) := Lib.hid (by simp [DevS.appE, hi, hm, h33])
  have q33 : ((m : Int) == 33) = false := by simp; omega
  have HE := Lib.hid (mayE_pos (S := S) (e := 1) (by decide))
  have HA := Lib.hid (app_no HR.out HE.out)
  have qe : (S.mayE 1 != 0) = true := by simpa using HE.out
  obtain ⟨me, hme⟩ : ∃ me, S.mayE 1 = me := ⟨_, rfl⟩
  have HME := Lib.hid hme
  rw [hme] at qe
  clear h hme hi h33
  go_enter Tryz.func43, Tryz.ntmps43
  go_wp2_with fail
  refine (ris_at _ HH.out).mono ?_
  rintro r w' ⟨rfl, rfl⟩
  rw [HI.out]
  go_wp2_with fail
  refine (rmay_at 1 HH.out hd).mono ?_
  rintro r w1 ⟨rfl, hr, hk⟩
  have H1 := Lib.hid hr
  have HK := Lib.hid hk
  clear hr hk
  rw [HME.out]
  go_wp2_with fail
  go_ret2
  have hdn := done_not (_e := me) H1.out HK.out HA.out.1.symm
  exact ⟨by rw [HA.out.2, HR.out, HME.out]; rfl, hdn.1, hdn.2⟩

theorem rappend_no3 {F : Nat → Prop} {w : World} {db zb cap : Nat} {zs : List Value} {S : DevS} (n : Int) (A : Option Addr) (m c : Nat) (b : List Int) (h : RD F w db zb cap zs S) (hd : S.done ≤ 1000000) (hm : b.length = m) (hi : S.is n = true) (h33 : m = 33) (hs : S.state n = 2) : Calls Tryz.prog 43 #[.pointer (some ⟨db, 0, none⟩), .int .i64 n, .slice A m c] w (AppIs F db (S.app n b) (S.appN n b) (S.mayE (S.appE n b)) w) := by
  have HH := Lib.hid h
  subst h33
  have HI := Lib.hid hi
  have HS := Lib.hid hs
  have HR : Hid (S.appE n b = 5) := Lib.hid (by simp [DevS.appE, hi, hm, hs])
  have HE := Lib.hid (mayE_pos (S := S) (e := 5) (by decide))
  have HA := Lib.hid (app_no HR.out HE.out)
  have qe : (S.mayE 5 != 0) = true := by simpa using HE.out
  obtain ⟨me, hme⟩ : ∃ me, S.mayE 5 = me := ⟨_, rfl⟩
  have HME := Lib.hid hme
  rw [hme] at qe
  clear h hme hi hs
  go_enter Tryz.func43, Tryz.ntmps43
  go_wp2_with fail
  refine (ris_at _ HH.out).mono ?_
  rintro r w' ⟨rfl, rfl⟩
  rw [HI.out]
  go_wp2_with fail
  refine (rstate_at _ HH.out).mono ?_
  rintro r w0 ⟨rfl, hb⟩
  have H0 := Lib.hid (HH.out.up hb)
  have HK0 : Hid (Kept F w w0) := Lib.hid (Kept.of_below hb)
  clear hb
  rw [HS.out]
  go_wp2_with fail
  refine (rmay_at 5 H0.out hd).mono ?_
  rintro r w1 ⟨rfl, hr, hk⟩
  have H1 := Lib.hid hr
  have HK := Lib.hid (HK0.out.and hk)
  clear hr hk
  rw [HME.out]
  go_wp2_with fail
  go_ret2
  have hdn := done_not (_e := me) H1.out HK.out HA.out.1.symm
  exact ⟨by rw [HA.out.2, HR.out, HME.out]; rfl, hdn.1, hdn.2⟩

theorem RD.mono {F G : Nat → Prop} {w : World} {db zb cap : Nat} {zs : List Value} {S : DevS} (h : RD F w db zb cap zs S) (hfg : ∀ k, F k → G k) (hlt : ∀ k, G k → k < w.heap.size) : RD G w db zb cap zs S :=
  ⟨h.dev, h.blk, fun i hi => by obtain ⟨v, a, b, c, d⟩ := h.row i hi; exact ⟨v, a, b, c, d.mono (fun k hk => ⟨hfg k hk.1, hk.2⟩)⟩, h.room, h.len, hfg _ h.fd, hfg _ h.fz, h.ne, hlt, h.wf⟩
/-- What is kept once the zone's pages are stored. -/
theorem app_end {F : Nat → Prop} {w w1 w4 : World} {db zb cap i m g3 cap3 g4 cap4 : Nat} {zs vs : List Value} {S1 S' : DevS} {Z : ZoneS} {b : List Int} (H1 : RD F w1 db zb cap zs S1) (hi : S1.is (i : Int) = true) (hZ : S1.zone (i : Int) = Z) (hm : Z.pages.length = m) (hvl : vs.length = m)
    (HX : ∀ j (h : j < vs.length) (h2 : j < Z.pages.length), BytF (fun k => F k ∧ k ≠ db ∧ k ≠ zb) w1 vs[j] Z.pages[j]) (hb : b.length = 33) (HB : Below w1.heap.size w1 w4) (HQ : OwnG w4 w1.heap.size 5 g3 cap3 (cellsOf8 b)) (HO : OwnG w4 w1.heap.size 61 g4 cap4 (vs ++ [.slice (some ⟨g3, 0, none⟩) 33 cap3])) (HK : Kept F w w1)
    (hS : S1.put (i : Int) { Z with pages := Z.pages ++ [b] } = S') (hwf : S'.WF) : RDev (grow F w (w4.setCell ⟨zb, i * 3, none⟩ (.slice (some ⟨g4, 0, none⟩) (m + 1) cap4))) (w4.setCell ⟨zb, i * 3, none⟩ (.slice (some ⟨g4, 0, none⟩) (m + 1) cap4)) db S' ∧ Kept F w (w4.setCell ⟨zb, i * 3, none⟩ (.slice (some ⟨g4, 0, none⟩) (m + 1) cap4)) := by
  subst hS
  have hlt : i < S1.zones.length := by have := (DevS.is_iff.1 hi).2; omega
  have H4 : RD (grow F w1 w4) w4 db zb cap zs S1 := (H1.up HB).grow
  have hzr := zrow_len H1.room H1.len hlt
  have hn := H1.nth i hi
  rw [hZ] at hn
  have hdb := lt_of_block H1.dev
  have hzb := lt_of_block H1.blk
  have hg4 := HO.mem
  have hg3 := HQ.mem
  have HZ := set_one (zs := zs) (k := i * 3) (.slice (some ⟨g4, 0, none⟩) (m + 1) cap4) (by omega)
  have hc4 := HO.cap
  have hc3 := HQ.cap
  rw [cells8_len, hb] at hc3
  have hrow : RowsF (fun k => grow F w1 w4 k ∧ k ≠ db ∧ k ≠ zb) w4 (.slice (some ⟨g4, 0, none⟩) (m + 1) cap4) (Z.pages ++ [b]) := by
    refine ⟨some ⟨g4, 0, none⟩, cap4, vs ++ [.slice (some ⟨g3, 0, none⟩) 33 cap3], by simp [hm], by simpa [hm, hvl] using hc4, HO.rdV, (InF.one ⟨.inr hg4, by omega, by omega⟩).n, fun e => (by cases e), by simp [hm, hvl], fun j h h2 => ?_⟩
    by_cases hj : j < m
    · rw [List.getElem_append_left (by omega), List.getElem_append_left (by omega)]
      exact ((HX j (by omega) (by omega)).keep (Kept.of_below (F := fun _ => False) HB) (fun _ _ => id)).mono (fun k hk => ⟨.inl hk.1, hk.2⟩)
    · have e : j = m := by simp [hvl] at h; omega
      subst e
      rw [List.getElem_append_right (by omega), List.getElem_append_right (by omega)]
      simp only [hvl, hm, Nat.sub_self, List.getElem_cons_zero]
      exact ⟨some ⟨g3, 0, none⟩, cap3, by rw [hb], by omega, HQ.own8.rd, (InF.one ⟨.inr hg3, by omega, by omega⟩).n, fun e => (by cases e)⟩
  have hkz := kept_put w4 zb (i * 3) (.slice (some ⟨g4, 0, none⟩) (m + 1) cap4)
  have H5 := H4.setZone (i := i) (z := { Z with pages := Z.pages ++ [b] }) (v := .slice (some ⟨g4, 0, none⟩) (m + 1) cap4) hlt (H4.blk.put _ _) hkz HZ.1 (fun k h0 _ _ => HZ.2.1 k h0) HZ.2.2 (by rw [HZ.2.1 _ (by omega)]; exact hn.1) (by rw [HZ.2.1 _ (by omega)]; exact hn.2) (hrow.keep hkz (fun k hk e => hk.2.2 e)) hwf
  have hk5 : Kept F w (w4.setCell ⟨zb, i * 3, none⟩ (.slice (some ⟨g4, 0, none⟩) (m + 1) cap4)) := (HK.and (Kept.of_below HB)).put (.inl H1.fz) _ _
  refine ⟨⟨zb, cap, _, H5.mono (fun k hk => ?_) (fun k hk => ?_)⟩, hk5⟩
  · rcases hk with hk | hk
    · exact .inl hk
    · exact .inr ⟨Nat.le_trans HK.size hk.1, Nat.lt_of_lt_of_le hk.2 hkz.size⟩
  · rcases hk with hk | hk
    · exact Nat.lt_of_lt_of_le (H1.lt k hk) (Nat.le_trans HB.size hkz.size)
    · exact hk.2
set_option maxHeartbeats 4000000 in
set_option maxRecDepth 100000 in
theorem rappend_yes {F : Nat → Prop} {w : World} {db zb cap : Nat} {zs : List Value} {S : DevS} (i : Nat) (A : Option Addr) (c : Nat) (b : List Int) (h : RD F w db zb cap zs S) (hd : S.done ≤ 1000000) (hm : b.length = 33) (hA : Rd w w.heap.size A b) (hAF : InN b.length (fun k => ¬ F k) A) (hAc : A = none → c = 0) (hby : Byt b) (hi : S.is (i : Int) = true) (hs : S.state (i : Int) ≠ 2) :
    Calls Tryz.prog 43 #[.pointer (some ⟨db, 0, none⟩), .int .i64 (i : Int), .slice A 33 c] w (AppIs F db (S.app (i : Int) b) (S.appN (i : Int) b) (S.mayE (S.appE (i : Int) b)) w) := by
  have HH := Lib.hid h
  have HI := Lib.hid hi
  have hlt : i < S.zones.length := by have := (DevS.is_iff.1 hi).2; omega
  have HR : Hid (S.appE (i : Int) b = 0) := Lib.hid (by simp [DevS.appE, hi, hm, hs])
  obtain ⟨st, hst⟩ : ∃ st, S.state (i : Int) = st := ⟨_, rfl⟩
  have HS := Lib.hid hst
  have qs : (st == 2) = false := by rw [← hst]; simpa using hs
  have HAR := Lib.hid (And.intro hA (And.intro hAF (And.intro hAc (And.intro hm hby))))
  have HPL := Lib.hid (DevS.state_two h.wf hi hs)
  have hp16 := h.wf.p1
  clear h hi hs hst hA hAF hAc hm hby
  go_enter Tryz.func43, Tryz.ntmps43
  go_wp2_with fail
  refine (ris_at _ HH.out).mono ?_
  rintro r w' ⟨rfl, rfl⟩
  rw [HI.out]
  go_wp2_with fail
  refine (rstate_at _ HH.out).mono ?_
  rintro r w0 ⟨rfl, hb⟩
  have H0 := Lib.hid (HH.out.up hb)
  have HK0 : Hid (Kept F w w0) := Lib.hid (Kept.of_below hb)
  clear hb
  rw [HS.out]
  go_wp2_with fail
  refine (rmay_at 0 H0.out hd).mono ?_
  rintro r w1 ⟨rfl, hr, hk⟩
  have H1 := Lib.hid hr
  have HK := Lib.hid (HK0.out.and hk)
  clear hr hk HK0
  by_cases he : S.mayE 0 = 0
  · have HE := Lib.hid he
    rw [he]
    have HA := Lib.hid (app_yes HR.out HE.out)
    have hz0 : (S.mayS 0).zones.length = S.zones.length := by rw [DevS.mayS_zones]
    have HI1 : Hid ((S.mayS 0).is (i : Int) = true) := Lib.hid (by rw [is_may]; exact HI.out)
    obtain ⟨v, k0, _, _, hrows, hrl, _, hv0⟩ := H1.out.zone i HI1.out
    have hnth := H1.out.nth i HI1.out
    rw [zone_may] at hrows hnth
    obtain ⟨B, cp, vs, rfl, hcp, hrv, hBF, hB0, hvl, hx⟩ := hrows.out
    obtain ⟨Z, hZ⟩ : ∃ Z, S.zone (i : Int) = Z := ⟨_, rfl⟩
    rw [hZ] at k0 hcp hvl hx hnth hv0
    have HZ := Lib.hid hZ
    obtain ⟨m, hm⟩ : ∃ m, Z.pages.length = m := ⟨_, rfl⟩
    rw [hm] at k0 hcp hvl hv0
    have HVM : Hid (vs.length = m) := Lib.hid hvl
    have hmb : m ≤ 16 := by have := HPL.out; rw [hZ, hm] at this; omega
    have HVS := Lib.hid hrv
    have HONE := Lib.hid (rows_one (by rw [hvl, hm]) hx)
    have HX := Lib.hid hx
    have HBF := Lib.hid hBF
    have HB0 := Lib.hid hB0
    have HNTH := Lib.hid hnth
    have HV0 := Lib.hid hv0
    have HAR1 : Hid (Rd w1 w1.heap.size A b) := Lib.hid (HAR.out.1.keep HK.out HAR.out.2.1)
    have HRV1 : Hid (RdV w1 w1.heap.size A (cellsOf8 b)) := Lib.hid HAR1.out.rdV
    have HCL : Hid ((cellsOf8 b).length = 33) := Lib.hid (by rw [cells8_len]; exact HAR.out.2.2.2.1)
    have c0 := H1.out.c0
    rw [hz0] at c0
    have hdb := lt_of_block H1.out.dev
    have hzb := lt_of_block H1.out.blk
    have f0 := H1.out.blk.free (i * 3)
    clear hrows hrv hx hBF hB0 hvl hnth hv0 he hZ
    have HBA : Hid (Below w1.heap.size w1 (w1.alloc (.cells #[] 61)).drew) := Lib.hid (Below.alloc (Below.refl _ _) (Nat.le_refl _) _).drew
    have HBB : Hid (Below w1.heap.size w1 ((w1.alloc (.cells #[] 61)).alloc (.cells #[] 5)).drew) := Lib.hid ((Below.alloc (Below.refl _ _) (Nat.le_refl _) _).alloc (by rw [World.size_alloc]; omega) _).drew
    have HBC0 : Hid (Below w1.heap.size w1 (w1.alloc (.cells #[] 5)).drew) := Lib.hid (Below.alloc (Below.refl _ _) (Nat.le_refl _) _).drew
    have HBC : Hid (Below w1.heap.size w1 ((w1.alloc (.cells #[] 5)).alloc (.cells #[] 61)).drew) := Lib.hid ((Below.alloc (Below.refl _ _) (Nat.le_refl _) _).alloc (by rw [World.size_alloc]; omega) _).drew
    have HOA : Hid (RowV (w1.alloc (.cells #[] 61)).drew w1.heap.size 61 (.slice (some ⟨w1.heap.size, 0, none⟩) 0 0) []) := Lib.hid (RowV.new w1 _ _ (Nat.le_refl _))
    have HOB : Hid (RowV ((w1.alloc (.cells #[] 61)).alloc (.cells #[] 5)).drew w1.heap.size 61 (.slice (some ⟨w1.heap.size, 0, none⟩) 0 0) []) := Lib.hid ((RowV.new w1 w1.heap.size 61 (Nat.le_refl _)).rise (Below.alloc (Below.refl _ _) (Nat.le_refl _) _).drew)
    have HOB2 : Hid (RowV ((w1.alloc (.cells #[] 61)).alloc (.cells #[] 5)).drew w1.heap.size 5 (.slice (some ⟨w1.heap.size + 1, 0, none⟩) 0 0) []) := Lib.hid (by
      have := RowV.new (w1.alloc (.cells #[] 61)) w1.heap.size 5 (by rw [World.size_alloc]; omega)
      rwa [World.size_alloc] at this)
    have HOC2 : Hid (RowV ((w1.alloc (.cells #[] 5)).alloc (.cells #[] 61)).drew w1.heap.size 5 (.slice (some ⟨w1.heap.size, 0, none⟩) 0 0) []) := Lib.hid ((RowV.new w1 w1.heap.size 5 (Nat.le_refl _)).rise (Below.alloc (Below.refl _ _) (Nat.le_refl _) _).drew)
    have HOC : Hid (RowV ((w1.alloc (.cells #[] 5)).alloc (.cells #[] 61)).drew w1.heap.size 61 (.slice (some ⟨w1.heap.size + 1, 0, none⟩) 0 0) []) := Lib.hid (by
      have := RowV.new (w1.alloc (.cells #[] 5)) w1.heap.size 61 (by rw [World.size_alloc]; omega)
      rwa [World.size_alloc] at this)
    have HBD : Hid (Below w1.heap.size w1 w1.drew) := Lib.hid (Below.refl _ _).drew
    have KS : ∀ u, Below w1.heap.size w1 u → u.cell? ⟨db, 0, none⟩ = some (.slice (some ⟨zb, 0, none⟩) S.zones.length cap) := fun u hu => (hu.cell (p := ⟨db, 0, none⟩) hdb).trans c0
    have KZ : ∀ u, Below w1.heap.size w1 u → u.cell? ⟨zb, i * 3, none⟩ = some (.slice B m cp) := fun u hu => (hu.cell (p := ⟨zb, i * 3, none⟩) hzb).trans k0
    have KF : ∀ u, Below w1.heap.size w1 u → u.frozen? ⟨zb, i * 3, none⟩ = false := fun u hu => (hu.frozen (p := ⟨zb, i * 3, none⟩) hzb).trans f0
    have KS7 : ∀ u, Below w1.heap.size w1 u → ∀ x : Value, (u.setCell ⟨zb, i * 3, none⟩ x).cell? ⟨db, 0, none⟩ = some (.slice (some ⟨zb, 0, none⟩) S.zones.length cap) := fun u hu x => (kept_put u zb (i * 3) x).cell (KS u hu) H1.out.ne
    have ka : (w1.alloc (.cells #[] 61)).cell? ⟨zb, i * 3, none⟩ = some (.slice B m cp) := (HBA.out.cell (p := ⟨zb, i * 3, none⟩) hzb).trans k0
    have da : (w1.alloc (.cells #[] 61)).cell? ⟨db, 0, none⟩ = some (.slice (some ⟨zb, 0, none⟩) S.zones.length cap) := (HBA.out.cell (p := ⟨db, 0, none⟩) hdb).trans c0
    have kb : ((w1.alloc (.cells #[] 61)).alloc (.cells #[] 5)).cell? ⟨zb, i * 3, none⟩ = some (.slice B m cp) := (HBB.out.cell (p := ⟨zb, i * 3, none⟩) hzb).trans k0
    have dbb : ((w1.alloc (.cells #[] 61)).alloc (.cells #[] 5)).cell? ⟨db, 0, none⟩ = some (.slice (some ⟨zb, 0, none⟩) S.zones.length cap) := (HBB.out.cell (p := ⟨db, 0, none⟩) hdb).trans c0
    have kc0 : (w1.alloc (.cells #[] 5)).cell? ⟨zb, i * 3, none⟩ = some (.slice B m cp) := (HBC0.out.cell (p := ⟨zb, i * 3, none⟩) hzb).trans k0
    have dc0 : (w1.alloc (.cells #[] 5)).cell? ⟨db, 0, none⟩ = some (.slice (some ⟨zb, 0, none⟩) S.zones.length cap) := (HBC0.out.cell (p := ⟨db, 0, none⟩) hdb).trans c0
    have kc : ((w1.alloc (.cells #[] 5)).alloc (.cells #[] 61)).cell? ⟨zb, i * 3, none⟩ = some (.slice B m cp) := (HBC.out.cell (p := ⟨zb, i * 3, none⟩) hzb).trans k0
    have dc : ((w1.alloc (.cells #[] 5)).alloc (.cells #[] 61)).cell? ⟨db, 0, none⟩ = some (.slice (some ⟨zb, 0, none⟩) S.zones.length cap) := (HBC.out.cell (p := ⟨db, 0, none⟩) hdb).trans c0
    have hin : (i : Int) < (S.zones.length : Int) := by omega
    have hin0 : (0 : Int) ≤ (i : Int) := by omega
    have HEND : Hid (∀ g3 cap3 g4 cap4 w4, OwnG w4 w1.heap.size 5 g3 cap3 (cellsOf8 b) → OwnG w4 w1.heap.size 61 g4 cap4 (vs ++ [.slice (some ⟨g3, 0, none⟩) 33 cap3]) → Below w1.heap.size w1 w4 →
        RDev (grow F w (w4.setCell ⟨zb, i * 3, none⟩ (.slice (some ⟨g4, 0, none⟩) (m + 1) cap4))) (w4.setCell ⟨zb, i * 3, none⟩ (.slice (some ⟨g4, 0, none⟩) (m + 1) cap4)) db (S.app (i : Int) b) ∧ Kept F w (w4.setCell ⟨zb, i * 3, none⟩ (.slice (some ⟨g4, 0, none⟩) (m + 1) cap4))) := Lib.hid (fun g3 cap3 g4 cap4 w4 hq ho hb =>
      app_end H1.out HI1.out (by rw [zone_may]; exact HZ.out) hm HVM.out HX.out HAR.out.2.2.2.1 hb hq ho HK.out (by rw [HA.out.1, HZ.out]) (DevS.app_wf HH.out.wf _ HAR.out.2.2.2.2))
    have HLN : Hid (S.appN (i : Int) b = (m : Int)) := Lib.hid (by rw [HA.out.2, HZ.out, hm])
    generalize S.zones.length = nz at *
    go_wp2_with fail
    refine wp_region_parts (S := fun u => u.cell? ⟨db, 0, none⟩ = some (.slice (some ⟨zb, 0, none⟩) nz cap) ∧ u.cell? ⟨zb, i * 3, none⟩ = some (.slice B m cp)) 20 3 _ (by kernel_rfl) (by kernel_rfl) (by rfl) (by simp only [List.take_succ_cons, List.take_zero]; rfl) ?_ (fun hHeld => ?_)
    · exact ⟨KS _ HBD.out, KZ _ HBD.out⟩
    refine wpAnyH_take (i := 0) (v := ?_) rfl (by kernel_rfl) (by kernel_rfl) (by kernel_rfl) (fun _ _ _ h => h) (Or.inl ⟨by rfl, ?_⟩) (by assumption) ?_
    rotate_left
    · intro u hSu
      try dsimp only at hSu
      go_simp
      try with_reducible rfl
    simp only [Act.put, List.setIfInBounds_toArray]
    refine wpAnyH_take (i := 1) (v := ?_) rfl (by kernel_rfl) (by kernel_rfl) (by kernel_rfl) (fun _ _ _ h => h) (Or.inl ⟨by rfl, ?_⟩) (by assumption) ?_
    rotate_left
    · intro u hSu
      try dsimp only at hSu
      go_simp
      try with_reducible rfl
    simp only [Act.put]
    refine wpAnyH_take (i := 2) (v := ?_) rfl (by kernel_rfl) (by kernel_rfl) (by kernel_rfl) (fun _ _ _ h => h) (Or.inl ⟨by rfl, ?_⟩) (by assumption) ?_
    rotate_left
    · intro u hSu
      try dsimp only at hSu
      go_simp
      try with_reducible rfl
    simp only [Act.put]
    refine wpAnyH_take (i := 3) (v := ?_) rfl (by kernel_rfl) (by kernel_rfl) (by kernel_rfl) (fun _ _ _ h => h) (Or.inl ⟨by rfl, ?_⟩) (by assumption) ?_
    rotate_left
    · intro u hSu
      try dsimp only at hSu
      go_simp
      try with_reducible rfl
    simp only [Act.put]
    refine wpAnyH_take (i := 4) (v := ?_) rfl (by kernel_rfl) (by kernel_rfl) (by kernel_rfl) (fun _ _ _ h => h) (Or.inl ⟨by rfl, ?_⟩) (by assumption) ?_
    rotate_left
    · intro u hSu
      try dsimp only at hSu
      go_simp
      try with_reducible rfl
    simp only [Act.put]
    refine wpAnyH_take (i := 6) (v := ?_) rfl (by kernel_rfl) (by kernel_rfl) (by kernel_rfl) (fun _ _ _ h => h) (Or.inl ⟨by rfl, ?_⟩) (by assumption) ?_
    rotate_left
    · intro u hSu
      try dsimp only at hSu
      go_simp
      try with_reducible rfl
    simp only [Act.put]
    refine wpAnyH_take (i := 7) (v := ?_) rfl (by kernel_rfl) (by kernel_rfl) (by kernel_rfl) (fun _ _ _ h => h) (Or.inl ⟨by rfl, ?_⟩) (by assumption) ?_
    rotate_left
    · intro u hSu
      try dsimp only at hSu
      go_simp
      try with_reducible rfl
    simp only [Act.put]
    refine wpAnyH_take (i := 8) (v := ?_) rfl (by kernel_rfl) (by kernel_rfl) (by kernel_rfl) (fun _ _ _ h => h) (Or.inl ⟨by rfl, ?_⟩) (by assumption) ?_
    rotate_left
    · intro u hSu
      try dsimp only at hSu
      go_simp
      try with_reducible rfl
    simp only [Act.put]
    refine wpAnyH_take (i := 9) (v := ?_) rfl (by kernel_rfl) (by kernel_rfl) (by kernel_rfl) (fun _ _ _ h => h) (Or.inl ⟨by rfl, ?_⟩) (by assumption) ?_
    rotate_left
    · intro u hSu
      try dsimp only at hSu
      go_simp
      try with_reducible rfl
    simp only [Act.put]
    refine wpAnyH_take (i := 10) (v := ?_) rfl (by kernel_rfl) (by kernel_rfl) (by kernel_rfl) (fun _ _ _ h => h) (Or.inl ⟨by rfl, ?_⟩) (by assumption) ?_
    rotate_left
    · intro u hSu
      try dsimp only at hSu
      go_simp
      try with_reducible rfl
    simp only [Act.put]
    refine wpAnyH_take (i := 11) (v := ?_) rfl (by kernel_rfl) (by kernel_rfl) (by kernel_rfl) (fun _ _ _ h => h) (Or.inl ⟨by rfl, ?_⟩) (by assumption) ?_
    rotate_left
    · intro u hSu
      try dsimp only at hSu
      go_simp
      try with_reducible rfl
    simp only [Act.put]
    refine wpAnyH_take (i := 12) (v := ?_) rfl (by kernel_rfl) (by kernel_rfl) (by kernel_rfl) (fun _ _ _ h => h) (Or.inl ⟨by rfl, ?_⟩) (by assumption) ?_
    rotate_left
    · intro u hSu
      try dsimp only at hSu
      go_simp
      try with_reducible rfl
    simp only [Act.put]
    refine wpAnyH_take (i := 13) (v := ?_) rfl (by kernel_rfl) (by kernel_rfl) (by kernel_rfl) (fun _ _ _ h => h) (Or.inl ⟨by rfl, ?_⟩) (by assumption) ?_
    rotate_left
    · intro u hSu
      try dsimp only at hSu
      go_simp
      try with_reducible rfl
    simp only [Act.put]
    refine wpAnyH_take (i := 16) (v := ?_) rfl (by kernel_rfl) (by kernel_rfl) (by kernel_rfl) (fun _ _ _ h => h) (Or.inl ⟨by rfl, ?_⟩) (by assumption) ?_
    rotate_left
    · intro u hSu
      try dsimp only at hSu
      go_simp
      try with_reducible rfl
    simp only [Act.put]
    refine wpAnyH_ready (rs := [5, 15]) (by kernel_rfl) (by simp) ?_
    refine (AllReadyH.cons rfl (fun K hK => ?_) (AllReadyH.cons rfl (fun K hK => ?_) AllReadyH.nil))
    · go_simp
      refine hK.out _ _ ?_ (fun hHeld => ?_)
      · exact ⟨KS _ HBA.out, KZ _ HBA.out⟩
      clear hK K
      try simp only [Act.put, List.setIfInBounds_toArray, List.set_cons_zero, List.set_cons_succ]
      refine wpAnyH_ready (rs := [14, 15]) (by kernel_rfl) (by simp) ?_
      refine (AllReadyH.cons rfl (fun K hK => ?_) (AllReadyH.cons rfl (fun K hK => ?_) AllReadyH.nil))
      · (refine stepR (w1.alloc (.cells #[] 61)).drew (by rfl) (.tmp 33) (.tmp 41) 60 61 (.slice none 0 0) 24 (by rfl) Tryz.underlying60 infoRow rfl (by decide) w1.heap.size 0 m cp (.slice (some ⟨w1.heap.size, 0, none⟩) 0 0) [] vs B (by rfl) HOA.out rfl (by rfl) HVM.out (HVS.out.up HBA.out) HB0.out HONE.out (by omega) HBA.out.size ?_; intro v2 w2 ho hg; have HO2 : Hid (RowV w2 w1.heap.size 61 v2 vs) := Lib.hid ho; have HB2 : Hid (Below w1.heap.size w1 w2) := Lib.hid (HBA.out.grown hg HBA.out.size (fun k e => (HOA.out.own k e).1)); have k2 := KZ _ HB2.out; have d2 := KS _ HB2.out; have HB2a : Hid (Below w1.heap.size w1 (w2.alloc (.cells #[] 5))) := Lib.hid (HB2.out.alloc HB2.out.size _); have k2a := KZ _ HB2a.out; have d2a := KS _ HB2a.out; have HE2a : Hid (RowV (w2.alloc (.cells #[] 5)) w1.heap.size 5 (.slice (some ⟨w2.heap.size, 0, none⟩) 0 0) []) := Lib.hid (RowV.new w2 w1.heap.size 5 HB2.out.size); have HO2a : Hid (RowV (w2.alloc (.cells #[] 5)) w1.heap.size 61 v2 vs) := Lib.hid (HO2.out.rise (Below.alloc (Below.refl _ _) (Nat.le_refl _) _)); clear ho hg)
        refine hK.out _ _ ?_ (fun hHeld => ?_)
        · exact ⟨KS _ HB2.out, KZ _ HB2.out⟩
        clear hK K
        try simp only [Act.put, List.setIfInBounds_toArray]
        refine wpAnyH_ready (rs := [15]) (by kernel_rfl) (by simp) ?_
        refine (AllReadyH.cons rfl (fun K hK => ?_) AllReadyH.nil)
        go_simp
        refine hK.out _ _ ?_ (fun hHeld => ?_)
        · exact ⟨KS _ HB2a.out, KZ _ HB2a.out⟩
        clear hK K
        try simp only [Act.put, List.setIfInBounds_toArray, List.set_cons_zero, List.set_cons_succ]
        refine wpAnyH_ready (rs := [17]) (by kernel_rfl) (by simp) ?_
        refine (AllReadyH.cons rfl (fun K hK => ?_) AllReadyH.nil)
        (refine stepR (w2.alloc (.cells #[] 5)) (by rfl) (.tmp 43) (.tmp 44) 61 5 (.int .u8 0) 1 (by rfl) Tryz.underlying61 infoU8 rfl (by decide) w1.heap.size 0 33 c (.slice (some ⟨w2.heap.size, 0, none⟩) 0 0) [] (cellsOf8 b) A (by rfl) HE2a.out rfl (by rfl) HCL.out (HRV1.out.up HB2a.out) HAR.out.2.2.1 one8 (by omega) HB2a.out.size ?_; intro v3 w3 ho hg; obtain ⟨g3, cap3, rfl, hO3⟩ := ho.form (by rw [List.nil_append, HCL.out]; omega); rw [nil_app_len HCL.out]; have HO3 : Hid (OwnG w3 w1.heap.size 5 g3 cap3 (cellsOf8 b)) := Lib.hid hO3; have HB3 : Hid (Below w1.heap.size w1 w3) := Lib.hid (HB2a.out.grown hg HB2a.out.size (fun k e => (HE2a.out.own k e).1)); have HR3 := Lib.hid (HO2a.out.kept hg (HO2a.out.apart HE2a.out (by decide))); have k3 := KZ _ HB3.out; have d3 := KS _ HB3.out; have HB3a : Hid (Below w1.heap.size w1 (w3.alloc (.cells #[.slice (some ⟨g3, 0, none⟩) 33 cap3] 61))) := Lib.hid (HB3.out.alloc HB3.out.size _); have k3a := KZ _ HB3a.out; have d3a := KS _ HB3a.out; clear ho hg hO3)
        refine hK.out _ _ ?_ (fun hHeld => ?_)
        · exact ⟨KS _ HB3.out, KZ _ HB3.out⟩
        clear hK K
        try simp only [Act.put, List.setIfInBounds_toArray]
        refine wpAnyH_ready (rs := [18]) (by kernel_rfl) (by simp) ?_
        refine (AllReadyH.cons rfl (fun K hK => ?_) AllReadyH.nil)
        go_simp
        refine hK.out _ _ ?_ (fun hHeld => ?_)
        · exact ⟨KS _ HB3a.out, KZ _ HB3a.out⟩
        clear hK K
        try simp only [Act.put, List.setIfInBounds_toArray, List.set_cons_zero, List.set_cons_succ]
        refine wpAnyH_ready (rs := [19]) (by kernel_rfl) (by simp) ?_
        refine (AllReadyH.cons rfl (fun K hK => ?_) AllReadyH.nil)
        (refine stepR (w3.alloc (.cells #[.slice (some ⟨g3, 0, none⟩) 33 cap3] 61)) (by rfl) (.tmp 42) (.tmp 46) 60 61 (.slice none 0 0) 24 (by rfl) Tryz.underlying60 infoRow rfl (by decide) w1.heap.size m 1 1 v2 vs [.slice (some ⟨g3, 0, none⟩) 33 cap3] (some ⟨w3.heap.size, 0, none⟩) (by rfl) (HR3.out.rise (Below.alloc (Below.refl _ _) (Nat.le_refl _) _)) HVM.out (by rfl) rfl (rdv_one w3 _ _) (fun e => by cases e) (fun u hu => by simp at hu; subst hu; rfl) (by omega) HB3a.out.size ?_; intro v4 w4 ho hg; obtain ⟨g4, cap4, rfl, hO4⟩ := ho.form (by simp); rw [app_one_len HVM.out]; have HO4 := Lib.hid hO4; have HB4 : Hid (Below w1.heap.size w1 w4) := Lib.hid (HB3a.out.grown hg HB3a.out.size (fun k e => (HR3.out.own k e).1)); have HQ4 : Hid (OwnG w4 w1.heap.size 5 g3 cap3 (cellsOf8 b)) := Lib.hid ((HO3.out.rise (Below.alloc (Below.refl _ _) (Nat.le_refl _) _)).kept hg (fun e => (HR3.out.apart (show RowV w3 w1.heap.size 5 (.slice (some ⟨g3, 0, none⟩) (cellsOf8 b).length cap3) (cellsOf8 b) from HO3.out) (by decide)) g3 e.symm rfl)); have k4 := KZ _ HB4.out; have d4 := KS _ HB4.out; have f4 := KF _ HB4.out; clear ho hg hO4)
        refine hK.out _ _ ?_ (fun hHeld => ?_)
        · exact ⟨KS _ HB4.out, KZ _ HB4.out⟩
        clear hK K
        try simp only [Act.put, List.setIfInBounds_toArray]
        refine wpAnyH_done (by kernel_rfl) ?_ _
        show wpAny _ _ _ _ 3 _ _ _
        refine wpAny_take (i := 20) (v := ?_) rfl (by kernel_rfl) (by kernel_rfl) (by kernel_rfl) (fun _ _ _ h => h) (Or.inl ⟨by rfl, ?_⟩) ?_
        rotate_left
        · intro u
          go_simp
          try with_reducible rfl
        simp only [Act.put]
        refine wpAny_take (i := 21) (v := ?_) rfl (by kernel_rfl) (by kernel_rfl) (by kernel_rfl) (fun _ _ _ h => h) (Or.inl ⟨by rfl, ?_⟩) ?_
        rotate_left
        · intro u
          go_simp
          try with_reducible rfl
        simp only [Act.put]
        have HEN := Lib.hid (HEND.out g3 cap3 g4 cap4 w4 HQ4.out HO4.out HB4.out)
        have d5 := KS7 w4 HB4.out (.slice (some ⟨g4, 0, none⟩) (m + 1) cap4)
        refine wpAny_ready (rs := [22]) (by kernel_rfl) (by simp) ?_
        refine AllReady.cons rfl (fun K hK => ?_) AllReady.nil
        go_simp
        refine hK _ _ ?_
        clear hK K
        refine wpAny_done (by kernel_rfl) ?_ _
        go_wp2_with fail
        go_ret2
        exact ⟨by rw [HLN.out, HR.out, HE.out]; rfl, HEN.out.1, HEN.out.2⟩
      · go_simp
        refine hK.out _ _ ?_ (fun hHeld => ?_)
        · exact ⟨KS _ HBB.out, KZ _ HBB.out⟩
        clear hK K
        try simp only [Act.put, List.setIfInBounds_toArray, List.set_cons_zero, List.set_cons_succ]
        refine wpAnyH_ready (rs := [14]) (by kernel_rfl) (by simp) ?_
        refine (AllReadyH.cons rfl (fun K hK => ?_) AllReadyH.nil)
        (refine stepR ((w1.alloc (.cells #[] 61)).alloc (.cells #[] 5)).drew (by rfl) (.tmp 33) (.tmp 41) 60 61 (.slice none 0 0) 24 (by rfl) Tryz.underlying60 infoRow rfl (by decide) w1.heap.size 0 m cp (.slice (some ⟨w1.heap.size, 0, none⟩) 0 0) [] vs B (by rfl) HOB.out rfl (by rfl) HVM.out (HVS.out.up HBB.out) HB0.out HONE.out (by omega) HBB.out.size ?_; intro v2 w2 ho hg; have HO2 : Hid (RowV w2 w1.heap.size 61 v2 vs) := Lib.hid ho; have HB2 : Hid (Below w1.heap.size w1 w2) := Lib.hid (HBB.out.grown hg HBB.out.size (fun k e => (HOB.out.own k e).1)); have k2 := KZ _ HB2.out; have d2 := KS _ HB2.out; have HB2a : Hid (Below w1.heap.size w1 (w2.alloc (.cells #[] 5))) := Lib.hid (HB2.out.alloc HB2.out.size _); have k2a := KZ _ HB2a.out; have d2a := KS _ HB2a.out; have HE2 := Lib.hid (HOB2.out.kept hg (HOB2.out.apart HOB.out (by decide))); clear ho hg)
        refine hK.out _ _ ?_ (fun hHeld => ?_)
        · exact ⟨KS _ HB2.out, KZ _ HB2.out⟩
        clear hK K
        try simp only [Act.put, List.setIfInBounds_toArray]
        refine wpAnyH_ready (rs := [17]) (by kernel_rfl) (by simp) ?_
        refine (AllReadyH.cons rfl (fun K hK => ?_) AllReadyH.nil)
        (refine stepR w2 (by rfl) (.tmp 43) (.tmp 44) 61 5 (.int .u8 0) 1 (by rfl) Tryz.underlying61 infoU8 rfl (by decide) w1.heap.size 0 33 c (.slice (some ⟨w1.heap.size + 1, 0, none⟩) 0 0) [] (cellsOf8 b) A (by rfl) HE2.out rfl (by rfl) HCL.out (HRV1.out.up HB2.out) HAR.out.2.2.1 one8 (by omega) HB2.out.size ?_; intro v3 w3 ho hg; obtain ⟨g3, cap3, rfl, hO3⟩ := ho.form (by rw [List.nil_append, HCL.out]; omega); rw [nil_app_len HCL.out]; have HO3 : Hid (OwnG w3 w1.heap.size 5 g3 cap3 (cellsOf8 b)) := Lib.hid hO3; have HB3 : Hid (Below w1.heap.size w1 w3) := Lib.hid (HB2.out.grown hg HB2.out.size (fun k e => (HE2.out.own k e).1)); have HR3 := Lib.hid (HO2.out.kept hg (HO2.out.apart HE2.out (by decide))); have k3 := KZ _ HB3.out; have d3 := KS _ HB3.out; have HB3a : Hid (Below w1.heap.size w1 (w3.alloc (.cells #[.slice (some ⟨g3, 0, none⟩) 33 cap3] 61))) := Lib.hid (HB3.out.alloc HB3.out.size _); have k3a := KZ _ HB3a.out; have d3a := KS _ HB3a.out; clear ho hg hO3)
        refine hK.out _ _ ?_ (fun hHeld => ?_)
        · exact ⟨KS _ HB3.out, KZ _ HB3.out⟩
        clear hK K
        try simp only [Act.put]
        refine wpAnyH_ready (rs := [18]) (by kernel_rfl) (by simp) ?_
        refine (AllReadyH.cons rfl (fun K hK => ?_) AllReadyH.nil)
        go_simp
        refine hK.out _ _ ?_ (fun hHeld => ?_)
        · exact ⟨KS _ HB3a.out, KZ _ HB3a.out⟩
        clear hK K
        try simp only [Act.put, List.setIfInBounds_toArray, List.set_cons_zero, List.set_cons_succ]
        refine wpAnyH_ready (rs := [19]) (by kernel_rfl) (by simp) ?_
        refine (AllReadyH.cons rfl (fun K hK => ?_) AllReadyH.nil)
        (refine stepR (w3.alloc (.cells #[.slice (some ⟨g3, 0, none⟩) 33 cap3] 61)) (by rfl) (.tmp 42) (.tmp 46) 60 61 (.slice none 0 0) 24 (by rfl) Tryz.underlying60 infoRow rfl (by decide) w1.heap.size m 1 1 v2 vs [.slice (some ⟨g3, 0, none⟩) 33 cap3] (some ⟨w3.heap.size, 0, none⟩) (by rfl) (HR3.out.rise (Below.alloc (Below.refl _ _) (Nat.le_refl _) _)) HVM.out (by rfl) rfl (rdv_one w3 _ _) (fun e => by cases e) (fun u hu => by simp at hu; subst hu; rfl) (by omega) HB3a.out.size ?_; intro v4 w4 ho hg; obtain ⟨g4, cap4, rfl, hO4⟩ := ho.form (by simp); rw [app_one_len HVM.out]; have HO4 := Lib.hid hO4; have HB4 : Hid (Below w1.heap.size w1 w4) := Lib.hid (HB3a.out.grown hg HB3a.out.size (fun k e => (HR3.out.own k e).1)); have HQ4 : Hid (OwnG w4 w1.heap.size 5 g3 cap3 (cellsOf8 b)) := Lib.hid ((HO3.out.rise (Below.alloc (Below.refl _ _) (Nat.le_refl _) _)).kept hg (fun e => (HR3.out.apart (show RowV w3 w1.heap.size 5 (.slice (some ⟨g3, 0, none⟩) (cellsOf8 b).length cap3) (cellsOf8 b) from HO3.out) (by decide)) g3 e.symm rfl)); have k4 := KZ _ HB4.out; have d4 := KS _ HB4.out; have f4 := KF _ HB4.out; clear ho hg hO4)
        refine hK.out _ _ ?_ (fun hHeld => ?_)
        · exact ⟨KS _ HB4.out, KZ _ HB4.out⟩
        clear hK K
        try simp only [Act.put, List.setIfInBounds_toArray]
        refine wpAnyH_done (by kernel_rfl) ?_ _
        show wpAny _ _ _ _ 3 _ _ _
        refine wpAny_take (i := 20) (v := ?_) rfl (by kernel_rfl) (by kernel_rfl) (by kernel_rfl) (fun _ _ _ h => h) (Or.inl ⟨by rfl, ?_⟩) ?_
        rotate_left
        · intro u
          go_simp
          try with_reducible rfl
        simp only [Act.put]
        refine wpAny_take (i := 21) (v := ?_) rfl (by kernel_rfl) (by kernel_rfl) (by kernel_rfl) (fun _ _ _ h => h) (Or.inl ⟨by rfl, ?_⟩) ?_
        rotate_left
        · intro u
          go_simp
          try with_reducible rfl
        simp only [Act.put]
        have HEN := Lib.hid (HEND.out g3 cap3 g4 cap4 w4 HQ4.out HO4.out HB4.out)
        have d5 := KS7 w4 HB4.out (.slice (some ⟨g4, 0, none⟩) (m + 1) cap4)
        refine wpAny_ready (rs := [22]) (by kernel_rfl) (by simp) ?_
        refine AllReady.cons rfl (fun K hK => ?_) AllReady.nil
        go_simp
        refine hK _ _ ?_
        clear hK K
        refine wpAny_done (by kernel_rfl) ?_ _
        go_wp2_with fail
        go_ret2
        exact ⟨by rw [HLN.out, HR.out, HE.out]; rfl, HEN.out.1, HEN.out.2⟩
    · go_simp
      refine hK.out _ _ ?_ (fun hHeld => ?_)
      · exact ⟨KS _ HBC0.out, KZ _ HBC0.out⟩
      clear hK K
      try simp only [Act.put, List.setIfInBounds_toArray, List.set_cons_zero, List.set_cons_succ]
      refine wpAnyH_ready (rs := [5]) (by kernel_rfl) (by simp) ?_
      refine (AllReadyH.cons rfl (fun K hK => ?_) AllReadyH.nil)
      go_simp
      refine hK.out _ _ ?_ (fun hHeld => ?_)
      · exact ⟨KS _ HBC.out, KZ _ HBC.out⟩
      clear hK K
      try simp only [Act.put, List.setIfInBounds_toArray, List.set_cons_zero, List.set_cons_succ]
      refine wpAnyH_ready (rs := [14]) (by kernel_rfl) (by simp) ?_
      refine (AllReadyH.cons rfl (fun K hK => ?_) AllReadyH.nil)
      (refine stepR ((w1.alloc (.cells #[] 5)).alloc (.cells #[] 61)).drew (by rfl) (.tmp 33) (.tmp 41) 60 61 (.slice none 0 0) 24 (by rfl) Tryz.underlying60 infoRow rfl (by decide) w1.heap.size 0 m cp (.slice (some ⟨w1.heap.size + 1, 0, none⟩) 0 0) [] vs B (by rfl) HOC.out rfl (by rfl) HVM.out (HVS.out.up HBC.out) HB0.out HONE.out (by omega) HBC.out.size ?_; intro v2 w2 ho hg; have HO2 : Hid (RowV w2 w1.heap.size 61 v2 vs) := Lib.hid ho; have HB2 : Hid (Below w1.heap.size w1 w2) := Lib.hid (HBC.out.grown hg HBC.out.size (fun k e => (HOC.out.own k e).1)); have k2 := KZ _ HB2.out; have d2 := KS _ HB2.out; have HB2a : Hid (Below w1.heap.size w1 (w2.alloc (.cells #[] 5))) := Lib.hid (HB2.out.alloc HB2.out.size _); have k2a := KZ _ HB2a.out; have d2a := KS _ HB2a.out; have HE2 := Lib.hid (HOC2.out.kept hg (HOC2.out.apart HOC.out (by decide))); clear ho hg)
      refine hK.out _ _ ?_ (fun hHeld => ?_)
      · exact ⟨KS _ HB2.out, KZ _ HB2.out⟩
      clear hK K
      try simp only [Act.put, List.setIfInBounds_toArray]
      refine wpAnyH_ready (rs := [17]) (by kernel_rfl) (by simp) ?_
      refine (AllReadyH.cons rfl (fun K hK => ?_) AllReadyH.nil)
      (refine stepR w2 (by rfl) (.tmp 43) (.tmp 44) 61 5 (.int .u8 0) 1 (by rfl) Tryz.underlying61 infoU8 rfl (by decide) w1.heap.size 0 33 c (.slice (some ⟨w1.heap.size, 0, none⟩) 0 0) [] (cellsOf8 b) A (by rfl) HE2.out rfl (by rfl) HCL.out (HRV1.out.up HB2.out) HAR.out.2.2.1 one8 (by omega) HB2.out.size ?_; intro v3 w3 ho hg; obtain ⟨g3, cap3, rfl, hO3⟩ := ho.form (by rw [List.nil_append, HCL.out]; omega); rw [nil_app_len HCL.out]; have HO3 : Hid (OwnG w3 w1.heap.size 5 g3 cap3 (cellsOf8 b)) := Lib.hid hO3; have HB3 : Hid (Below w1.heap.size w1 w3) := Lib.hid (HB2.out.grown hg HB2.out.size (fun k e => (HE2.out.own k e).1)); have HR3 := Lib.hid (HO2.out.kept hg (HO2.out.apart HE2.out (by decide))); have k3 := KZ _ HB3.out; have d3 := KS _ HB3.out; have HB3a : Hid (Below w1.heap.size w1 (w3.alloc (.cells #[.slice (some ⟨g3, 0, none⟩) 33 cap3] 61))) := Lib.hid (HB3.out.alloc HB3.out.size _); have k3a := KZ _ HB3a.out; have d3a := KS _ HB3a.out; clear ho hg hO3)
      refine hK.out _ _ ?_ (fun hHeld => ?_)
      · exact ⟨KS _ HB3.out, KZ _ HB3.out⟩
      clear hK K
      try simp only [Act.put]
      refine wpAnyH_ready (rs := [18]) (by kernel_rfl) (by simp) ?_
      refine (AllReadyH.cons rfl (fun K hK => ?_) AllReadyH.nil)
      go_simp
      refine hK.out _ _ ?_ (fun hHeld => ?_)
      · exact ⟨KS _ HB3a.out, KZ _ HB3a.out⟩
      clear hK K
      try simp only [Act.put, List.setIfInBounds_toArray, List.set_cons_zero, List.set_cons_succ]
      refine wpAnyH_ready (rs := [19]) (by kernel_rfl) (by simp) ?_
      refine (AllReadyH.cons rfl (fun K hK => ?_) AllReadyH.nil)
      (refine stepR (w3.alloc (.cells #[.slice (some ⟨g3, 0, none⟩) 33 cap3] 61)) (by rfl) (.tmp 42) (.tmp 46) 60 61 (.slice none 0 0) 24 (by rfl) Tryz.underlying60 infoRow rfl (by decide) w1.heap.size m 1 1 v2 vs [.slice (some ⟨g3, 0, none⟩) 33 cap3] (some ⟨w3.heap.size, 0, none⟩) (by rfl) (HR3.out.rise (Below.alloc (Below.refl _ _) (Nat.le_refl _) _)) HVM.out (by rfl) rfl (rdv_one w3 _ _) (fun e => by cases e) (fun u hu => by simp at hu; subst hu; rfl) (by omega) HB3a.out.size ?_; intro v4 w4 ho hg; obtain ⟨g4, cap4, rfl, hO4⟩ := ho.form (by simp); rw [app_one_len HVM.out]; have HO4 := Lib.hid hO4; have HB4 : Hid (Below w1.heap.size w1 w4) := Lib.hid (HB3a.out.grown hg HB3a.out.size (fun k e => (HR3.out.own k e).1)); have HQ4 : Hid (OwnG w4 w1.heap.size 5 g3 cap3 (cellsOf8 b)) := Lib.hid ((HO3.out.rise (Below.alloc (Below.refl _ _) (Nat.le_refl _) _)).kept hg (fun e => (HR3.out.apart (show RowV w3 w1.heap.size 5 (.slice (some ⟨g3, 0, none⟩) (cellsOf8 b).length cap3) (cellsOf8 b) from HO3.out) (by decide)) g3 e.symm rfl)); have k4 := KZ _ HB4.out; have d4 := KS _ HB4.out; have f4 := KF _ HB4.out; clear ho hg hO4)
      refine hK.out _ _ ?_ (fun hHeld => ?_)
      · exact ⟨KS _ HB4.out, KZ _ HB4.out⟩
      clear hK K
      try simp only [Act.put, List.setIfInBounds_toArray]
      refine wpAnyH_done (by kernel_rfl) ?_ _
      show wpAny _ _ _ _ 3 _ _ _
      refine wpAny_take (i := 20) (v := ?_) rfl (by kernel_rfl) (by kernel_rfl) (by kernel_rfl) (fun _ _ _ h => h) (Or.inl ⟨by rfl, ?_⟩) ?_
      rotate_left
      · intro u
        go_simp
        try with_reducible rfl
      simp only [Act.put]
      refine wpAny_take (i := 21) (v := ?_) rfl (by kernel_rfl) (by kernel_rfl) (by kernel_rfl) (fun _ _ _ h => h) (Or.inl ⟨by rfl, ?_⟩) ?_
      rotate_left
      · intro u
        go_simp
        try with_reducible rfl
      simp only [Act.put]
      have HEN := Lib.hid (HEND.out g3 cap3 g4 cap4 w4 HQ4.out HO4.out HB4.out)
      have d5 := KS7 w4 HB4.out (.slice (some ⟨g4, 0, none⟩) (m + 1) cap4)
      refine wpAny_ready (rs := [22]) (by kernel_rfl) (by simp) ?_
      refine AllReady.cons rfl (fun K hK => ?_) AllReady.nil
      go_simp
      refine hK _ _ ?_
      clear hK K
      refine wpAny_done (by kernel_rfl) ?_ _
      go_wp2_with fail
      go_ret2
      exact ⟨by rw [HLN.out, HR.out, HE.out]; rfl, HEN.out.1, HEN.out.2⟩
  · have HE := Lib.hid he
    have qe : (S.mayE 0 != 0) = true := by simpa using he
    obtain ⟨me, hme⟩ : ∃ me, S.mayE 0 = me := ⟨_, rfl⟩
    have HME := Lib.hid hme
    have HA := Lib.hid (app_no HR.out HE.out)
    rw [hme] at qe ⊢
    clear he hme
    go_wp2_with fail
    go_ret2
    have hdn := done_not (_e := me) H1.out HK.out HA.out.1.symm
    exact ⟨by rw [HA.out.2, HR.out, HME.out]; rfl, hdn.1, hdn.2⟩
theorem rappend_at {F : Nat → Prop} {w : World} {db zb cap : Nat} {zs : List Value} {S : DevS} (n : Int) (A : Option Addr) (m c : Nat) (b : List Int) (h : RD F w db zb cap zs S) (hd : S.done ≤ 1000000) (hm : b.length = m) (hA : Rd w w.heap.size A b) (hAF : InN b.length (fun k => ¬ F k) A) (hAc : A = none → c = 0) (hby : Byt b) :
    Calls Tryz.prog 43 #[.pointer (some ⟨db, 0, none⟩), .int .i64 n, .slice A m c] w (AppIs F db (S.app n b) (S.appN n b) (S.mayE (S.appE n b)) w) := by
  by_cases hi : S.is n = true
  · by_cases h33 : m = 33
    · subst h33
      by_cases hs : S.state n = 2
      · exact rappend_no3 n A 33 c b h hd hm hi rfl hs
      · obtain ⟨i, rfl⟩ := Int.eq_ofNat_of_zero_le (DevS.is_iff.1 hi).1
        exact rappend_yes i A c b h hd hm hA hAF hAc hby hi hs
    · exact rappend_no2 n A m c b h hd hm hi h33
  · exact rappend_no1 n A m c b h hd hm (by simpa using hi)
end Go.Proofs.YthmpimjmajoimaaGreatDoor
