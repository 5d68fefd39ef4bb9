/-
  head.Read: a Kind that may not be, and a page that comes back.
  The document's Bytes.
  The document's Read.
-/
import Derived.Test.YthmpimjmajoimaaGreatDoorSw27
import Derived.Deep.RegionWith
import Derived.Test.YthmpimjmajoimaaGreatDoorSw17
import Derived.Test.YthmpimjmajoimaaGreatDoorSw02
import Derived.Deep.RegionLaw
namespace Go.Proofs.YthmpimjmajoimaaGreatDoor
open Go.RowKit

set_option maxHeartbeats 1000000 in
set_option maxRecDepth 100000 in
theorem read_form (b o c : Nat) (ps : List Int) (w : World) (hr : Rd w w.heap.size (some ⟨b, o, none⟩) ps) (hx : Byt ps) (hl : ps.length = 33) (hc : 33 ≤ c) (hs : bk ps 13 = tot ps) (hk : rightK (ps.getD 0 0) = false) : Calls Tryz.prog 137 #[.slice (some ⟨b, o, none⟩) 33 c] w (ReadNo 2 w) := by
  obtain ⟨_, _, hA, hbl, _⟩ := hr (by omega)
  injection hA with hA
  injection hA with e1 e2
  subst e1 e2
  have HR := Lib.hid hr
  have HX := Lib.hid hx
  have HL := Lib.hid hl
  have HS : Hid ((bk ps 13 == tot ps) = true) := Lib.hid (by simpa using hs)
  have HB0 := Lib.hid ((Below.refl w.heap.size w).alloc (Nat.le_refl _) (.cells #[.int .u8 0, .int .u32 0, .int .u32 0, .int .u32 0] 159))
  have HH0 : Hid (Blk (w.alloc (.cells #[.int .u8 0, .int .u32 0, .int .u32 0, .int .u32 0] 159)) w.heap.size 159 [.int .u8 0, .int .u32 0, .int .u32 0, .int .u32 0]) := Lib.hid (heap_alloc_new w _)
  clear hr hx hl hs
  go_enter Tryz.func137, Tryz.ntmps137
  go_wp2_with fail
  refine (hparts_is b o c _ hc).mono ?_
  rintro r w1 ⟨rfl, hb⟩
  have HB1 := Lib.hid (HB0.out.trans (hb.mono HB0.out.size))
  have HH1 := Lib.hid (Blk.up HH0.out hb (lt_of_block HH0.out))
  have hs1 := HB1.out.size
  clear hb HB0 HH0
  go_wp2_with fail
  refine (take1_at (w := w1) rfl (rd_four_at 13 (HR.out.below HB1.out) HX.out (by rw [HL.out]; omega)) (by omega)).mono ?_
  rintro r w2 ⟨rfl, hb, hbl2⟩
  have HK : Hid (KeptN w w1.heap.size (bk ps 13) w2.drew) := Lib.hid ⟨(HB1.out.trans (hb.mono hs1)).drew, HH1.out.up hb.drew (lt_of_block HH1.out), hbl2⟩
  clear hb hbl2
  go_wp2_with fail
  obtain ⟨p, hp⟩ : ∃ p, w1.heap.size = p := ⟨_, rfl⟩
  rw [hp] at HK ⊢
  refine wp_region_in (KeptN w p (bk ps 13)) HK.out (by kernel_rfl) (by kernel_rfl) (fun ne => ?_)
  have c0 := fun n : In (KeptN w p (bk ps 13)) => n.ok.2.2.cell 0 (by simp)
  have totD : ∀ n : In (KeptN w p (bk ps 13)), Calls Tryz.prog 127 #[.slice (some ⟨b, o, none⟩) 13 13, .slice (some ⟨b, o + 17, none⟩) 16 16] n.w (NumB (tot ps) n.w) := fun n =>
    htotal_is (HX.out.take 13) (fun x hx => HX.out x (List.mem_of_mem_drop hx)) (((HR.out.below n.ok.1).take 13).mono n.ok.1.size) (((HR.out.below n.ok.1).drop 17).mono n.ok.1.size) (by simp [HL.out]) (by simp [HL.out]) (Nat.le_refl _) (Nat.le_refl _) (by omega) (by omega) rfl
  have q1 := HS.out
  generalize bk ps 13 = v at *
  generalize tot ps = t at *
  repeat (go_big_quiet_step (first
    | (go_at_call 127; with_reducible exact In.more KeptN.up (totD _))))
  refine wpQuiet_nil ?_
  intro nq
  have HK2 := Lib.hid nq.ok
  have cp : nq.w.cell? ⟨b, o, none⟩ = some (.int .u8 (ps.getD 0 0)) := by
    obtain ⟨b', o', hA, _, hcc⟩ := (HR.out.below nq.ok.1) (by rw [HL.out]; omega)
    injection hA with hA
    injection hA with e1 e2
    subst e1 e2
    have := hcc 0 (by rw [HL.out]; omega)
    rw [Nat.add_zero] at this
    rw [this]
    simp [List.getD_eq_getElem?_getD, HL.out]
  clear c0 totD HK HS HB1 HH1
  generalize hk0 : ps.getD 0 0 = k at *
  have HK0 := Lib.hid hk0
  clear hk0
  have HB5 := Lib.hid (HK2.out.1.alloc HK2.out.1.size (.cells #[.int .u8 k, .int .u32 0, .int .u32 0, .int .u32 0] 159))
  have HH5 := Lib.hid (HK2.out.2.1.up (Below.alloc (Below.refl nq.w.heap.size nq.w) (Nat.le_refl _) (.cells #[.int .u8 k, .int .u32 0, .int .u32 0, .int .u32 0] 159)) (lt_of_block HK2.out.2.1))
  have HX5 : Hid (Blk (nq.w.alloc (.cells #[.int .u8 k, .int .u32 0, .int .u32 0, .int .u32 0] 159)) nq.w.heap.size 159 [.int .u8 k, .int .u32 0, .int .u32 0, .int .u32 0]) := Lib.hid (heap_alloc_new nq.w _)
  go_wp2_with fail
  refine (hright_is k 0 0 0 _).mono ?_
  rintro r w6 ⟨rfl, hb⟩
  have HB6 := Lib.hid (HB5.out.trans (hb.mono HB5.out.size))
  have HH6 := Lib.hid (HH5.out.up hb (lt_of_block HH5.out))
  have HX6 := Lib.hid (HX5.out.up hb (lt_of_block HX5.out))
  have hwh : w.heap.size < nq.w.heap.size := lt_of_block HK2.out.2.1
  clear hb HB5 HH5 HX5 cp
  rw [hk]
  have d0 := HH6.out.cell 0 (by simp)
  have d1 := HH6.out.cell 1 (by simp)
  have d2 := HH6.out.cell 2 (by simp)
  have d3 := HH6.out.cell 3 (by simp)
  have f0 := HH6.out.free 0
  have f1 := HH6.out.free 1
  have f2 := HH6.out.free 2
  have f3 := HH6.out.free 3
  clear HR HX HL HK0 HX6
  go_wp2_with fail
  refine bodyPost_ret (v := .tuple #[.agg #[.int .u8 0, .int .u32 0, .int .u32 0, .int .u32 0], .slice none 0 0, .iface 31 (.int .i64 2)]) (by simp [results, Tryz.results137, go_sem, d0, d1, d2, d3]) rfl ⟨rfl, ?_⟩
  exact (((HB6.out.setCell (p := ⟨w.heap.size, 0, none⟩) (Nat.le_refl _) _).setCell (p := ⟨w.heap.size, 1, none⟩) (Nat.le_refl _) _).setCell (p := ⟨w.heap.size, 2, none⟩) (Nat.le_refl _) _).setCell (p := ⟨w.heap.size, 3, none⟩) (Nat.le_refl _) _
def box3 (w : World) (p : Nat) : World := w.alloc (.cells #[.pointer (some ⟨p, 1, none⟩), .pointer (some ⟨p, 2, none⟩), .pointer (some ⟨p, 3, none⟩)] 223)
theorem take3_at {b o c c2 p : Nat} {k n1 n2 n3 : Int} {w u : World} (hu : u = box3 w p) (hp : Blk w p 159 [.int .u8 k, .int .u32 0, .int .u32 0, .int .u32 0]) (h1 : Four w b o n1) (h2 : Four w b (o + 4) n2) (h3 : Four w b (o + 8) n3) (hb : b < p) :
    Calls Tryz.prog 142 #[.slice (some ⟨b, o, none⟩) 12 c, .slice (some ⟨w.heap.size, 0, none⟩) 3 c2] u fun r w' => r = .returned (.tuple #[]) ∧ w.grownBy w' (some p) ∧ Blk w' p 159 [.int .u8 k, .int .u32 n1, .int .u32 n2, .int .u32 n3] := by
  subst hu
  have hpl := lt_of_block hp
  have hbel : Below w.heap.size w (box3 w p) := (Below.refl _ _).alloc (Nat.le_refl _) _
  have hg0 : w.grownBy (box3 w p) (some p) := World.grownBy_alloc w _ _
  refine (htake_is b o 12 c w.heap.size c2 p 1 159 [.int .u8 k, .int .u32 0, .int .u32 0, .int .u32 0] [n1, n2, n3] (box3 w p) (hp.up hbel hpl) (by simp) (by omega) (by omega) (by simp) ?_ ?_ (by simp) (by omega) (by simp)).mono ?_
  · intro j hj
    have hj' : j < 3 := hj
    have hh : (box3 w p).heap[w.heap.size]? = some (.cells #[.pointer (some ⟨p, 1, none⟩), .pointer (some ⟨p, 2, none⟩), .pointer (some ⟨p, 3, none⟩)] 223 (0, 0)) := heap_alloc_new w _
    rw [cell_of_row _ w.heap.size j _ 223 (0, 0) hh]
    rcases j with _ | _ | _ | j
    all_goals first | omega | rfl
  · intro j hj
    have hj' : j < 3 := hj
    rcases j with _ | _ | _ | j
    · exact h1.up hbel (by omega)
    · exact h2.up hbel (by omega)
    · exact h3.up hbel (by omega)
    · omega
  · rintro r w' ⟨rfl, h1, h2⟩
    exact ⟨rfl, grown_then hg0 h1, h2⟩

set_option maxHeartbeats 1000000 in
set_option maxRecDepth 100000 in
theorem read_ok (b o c : Nat) (ps : List Int) (w : World) (hr : Rd w w.heap.size (some ⟨b, o, none⟩) ps) (hx : Byt ps) (hl : ps.length = 33) (hc : 33 ≤ c) (hs : bk ps 13 = tot ps) (hk : rightK (ps.getD 0 0) = true) : Calls Tryz.prog 137 #[.slice (some ⟨b, o, none⟩) 33 c] w (ReadOk ps w) := by
  obtain ⟨_, _, hA, hbl, _⟩ := hr (by omega)
  injection hA with hA
  injection hA with e1 e2
  subst e1 e2
  have HR := Lib.hid hr
  have HX := Lib.hid hx
  have HL := Lib.hid hl
  have HS : Hid ((bk ps 13 == tot ps) = true) := Lib.hid (by simpa using hs)
  have HB0 := Lib.hid ((Below.refl w.heap.size w).alloc (Nat.le_refl _) (.cells #[.int .u8 0, .int .u32 0, .int .u32 0, .int .u32 0] 159))
  have HH0 : Hid (Blk (w.alloc (.cells #[.int .u8 0, .int .u32 0, .int .u32 0, .int .u32 0] 159)) w.heap.size 159 [.int .u8 0, .int .u32 0, .int .u32 0, .int .u32 0]) := Lib.hid (heap_alloc_new w _)
  clear hr hx hl hs
  go_enter Tryz.func137, Tryz.ntmps137
  go_wp2_with fail
  refine (hparts_is b o c _ hc).mono ?_
  rintro r w1 ⟨rfl, hb⟩
  have HB1 := Lib.hid (HB0.out.trans (hb.mono HB0.out.size))
  have HH1 := Lib.hid (Blk.up HH0.out hb (lt_of_block HH0.out))
  have hs1 := HB1.out.size
  clear hb HB0 HH0
  go_wp2_with fail
  refine (take1_at (w := w1) rfl (rd_four_at 13 (HR.out.below HB1.out) HX.out (by rw [HL.out]; omega)) (by omega)).mono ?_
  rintro r w2 ⟨rfl, hb, hbl2⟩
  have HK : Hid (KeptN w w1.heap.size (bk ps 13) w2.drew) := Lib.hid ⟨(HB1.out.trans (hb.mono hs1)).drew, HH1.out.up hb.drew (lt_of_block HH1.out), hbl2⟩
  clear hb hbl2
  go_wp2_with fail
  obtain ⟨p, hp⟩ : ∃ p, w1.heap.size = p := ⟨_, rfl⟩
  rw [hp] at HK ⊢
  refine wp_region_in (KeptN w p (bk ps 13)) HK.out (by kernel_rfl) (by kernel_rfl) (fun ne => ?_)
  have c0 := fun n : In (KeptN w p (bk ps 13)) => n.ok.2.2.cell 0 (by simp)
  have totD : ∀ n : In (KeptN w p (bk ps 13)), Calls Tryz.prog 127 #[.slice (some ⟨b, o, none⟩) 13 13, .slice (some ⟨b, o + 17, none⟩) 16 16] n.w (NumB (tot ps) n.w) := fun n =>
    htotal_is (HX.out.take 13) (fun x hx => HX.out x (List.mem_of_mem_drop hx)) (((HR.out.below n.ok.1).take 13).mono n.ok.1.size) (((HR.out.below n.ok.1).drop 17).mono n.ok.1.size) (by simp [HL.out]) (by simp [HL.out]) (Nat.le_refl _) (Nat.le_refl _) (by omega) (by omega) rfl
  have q1 := HS.out
  generalize bk ps 13 = v at *
  generalize tot ps = t at *
  repeat (go_big_quiet_step (first
    | (go_at_call 127; with_reducible exact In.more KeptN.up (totD _))))
  refine wpQuiet_nil ?_
  intro nq
  have HK2 := Lib.hid nq.ok
  have cp : nq.w.cell? ⟨b, o, none⟩ = some (.int .u8 (ps.getD 0 0)) := by
    obtain ⟨b', o', hA, _, hcc⟩ := (HR.out.below nq.ok.1) (by rw [HL.out]; omega)
    injection hA with hA
    injection hA with e1 e2
    subst e1 e2
    have := hcc 0 (by rw [HL.out]; omega)
    rw [Nat.add_zero] at this
    rw [this]
    simp [List.getD_eq_getElem?_getD, HL.out]
  clear c0 totD HK HS HB1 HH1
  generalize hk0 : ps.getD 0 0 = k at *
  have HK0 := Lib.hid hk0
  clear hk0
  have HB5 := Lib.hid (HK2.out.1.alloc HK2.out.1.size (.cells #[.int .u8 k, .int .u32 0, .int .u32 0, .int .u32 0] 159))
  have HH5 := Lib.hid (HK2.out.2.1.up (Below.alloc (Below.refl nq.w.heap.size nq.w) (Nat.le_refl _) (.cells #[.int .u8 k, .int .u32 0, .int .u32 0, .int .u32 0] 159)) (lt_of_block HK2.out.2.1))
  have HX5 : Hid (Blk (nq.w.alloc (.cells #[.int .u8 k, .int .u32 0, .int .u32 0, .int .u32 0] 159)) nq.w.heap.size 159 [.int .u8 k, .int .u32 0, .int .u32 0, .int .u32 0]) := Lib.hid (heap_alloc_new nq.w _)
  go_wp2_with fail
  refine (hright_is k 0 0 0 _).mono ?_
  rintro r w6 ⟨rfl, hb⟩
  have HB6 := Lib.hid (HB5.out.trans (hb.mono HB5.out.size))
  have HH6 := Lib.hid (HH5.out.up hb (lt_of_block HH5.out))
  have HX6 := Lib.hid (HX5.out.up hb (lt_of_block HX5.out))
  have hwh : w.heap.size < nq.w.heap.size := lt_of_block HK2.out.2.1
  clear hb HB5 HH5 HX5 cp
  rw [hk]
  have HF1 := Lib.hid (rd_four_at 1 (HR.out.below HB6.out) HX.out (by rw [HL.out]; omega))
  have HF2 := Lib.hid (rd_four_at 5 (HR.out.below HB6.out) HX.out (by rw [HL.out]; omega))
  have HF3 := Lib.hid (rd_four_at 9 (HR.out.below HB6.out) HX.out (by rw [HL.out]; omega))
  obtain ⟨n1, hn1⟩ : ∃ n, bk ps 1 = n := ⟨_, rfl⟩
  obtain ⟨n2, hn2⟩ : ∃ n, bk ps 5 = n := ⟨_, rfl⟩
  obtain ⟨n3, hn3⟩ : ∃ n, bk ps 9 = n := ⟨_, rfl⟩
  rw [hn1] at HF1
  rw [hn2] at HF2
  rw [hn3] at HF3
  have HN := Lib.hid (And.intro hn1 (And.intro hn2 hn3))
  clear hn1 hn2 hn3
  obtain ⟨h, hh⟩ : ∃ h, nq.w.heap.size = h := ⟨_, rfl⟩
  rw [hh] at HX6 hwh ⊢
  go_wp2_with fail
  refine (take3_at (w := w6) (p := h) rfl HX6.out HF1.out HF2.out HF3.out (by omega)).mono ?_
  rintro r w7 ⟨rfl, hgr, hbl7⟩
  have HB7 := Lib.hid (HB6.out.grown hgr HB6.out.size (fun j hj => by injection hj; omega))
  have HH7 := Lib.hid (HH6.out.kept hgr (fun e => by injection e; omega))
  have HX7 := Lib.hid hbl7
  have HR7 := Lib.hid ((HR.out.below HB7.out).drop 17)
  clear hgr hbl7 HB6 HH6 HX6 HF1 HF2 HF3 HR
  have K0 : Hid (w7.cell? ⟨h, 0, none⟩ = some (.int .u8 k) ∧ w7.cell? ⟨h, 1, none⟩ = some (.int .u32 n1) ∧ w7.cell? ⟨h, 2, none⟩ = some (.int .u32 n2) ∧ w7.cell? ⟨h, 3, none⟩ = some (.int .u32 n3)) :=
    Lib.hid ⟨HX7.out.cell 0 (by simp), HX7.out.cell 1 (by simp), HX7.out.cell 2 (by simp), HX7.out.cell 3 (by simp)⟩
  have hh7 := lt_of_block HX7.out
  obtain ⟨k0, k1, k2, k3⟩ := K0.out
  have hneh : h ≠ w.heap.size := by omega
  go_wp2_with fail
  go_region_with (first | (go_at_call 87; (refine (clone_isq1 b (o + 17) 16 16 (ps.drop 17) _ (Rd.mono (show Rd w7.drew w.heap.size _ _ from HR7.out) HB7.out.size) (by simp [HL.out]) (by omega) (by omega)).mono ?_); rintro r w8 ⟨g, cap, rfl, ho, hb8⟩; have HO8 := Lib.hid ho; have HB8 : Hid (Below w7.heap.size w7 w8) := Lib.hid ((Below.refl _ _).drew.trans hb8); clear ho hb8; have K1 : Hid (w8.cell? ⟨h, 0, none⟩ = some (.int .u8 k) ∧ w8.cell? ⟨h, 1, none⟩ = some (.int .u32 n1) ∧ w8.cell? ⟨h, 2, none⟩ = some (.int .u32 n2) ∧ w8.cell? ⟨h, 3, none⟩ = some (.int .u32 n3)) := Lib.hid ⟨(HB8.out.cell (p := ⟨h, 0, none⟩) hh7).trans k0, (HB8.out.cell (p := ⟨h, 1, none⟩) hh7).trans k1, (HB8.out.cell (p := ⟨h, 2, none⟩) hh7).trans k2, (HB8.out.cell (p := ⟨h, 3, none⟩) hh7).trans k3⟩; obtain ⟨g0, g1, g2, g3⟩ := K1.out; have HH8 := Lib.hid (Blk.up HH7.out HB8.out (lt_of_block HH7.out)); have d0 := HH8.out.cell 0 (by simp); have d1 := HH8.out.cell 1 (by simp); have d2 := HH8.out.cell 2 (by simp); have d3 := HH8.out.cell 3 (by simp); have f0 := HH8.out.free 0; have f1 := HH8.out.free 1; have f2 := HH8.out.free 2; have f3 := HH8.out.free 3))
  all_goals (
    have hgb := HO8.out.base (by simp [HL.out])
    have hgr : w7.heap.size ≤ g := hgb.1
    have hw7 := HB7.out.size
    have GR : w8.grownBy ((((w8.setCell ⟨w.heap.size, 0, none⟩ (.int .u8 k)).setCell ⟨w.heap.size, 1, none⟩ (.int .u32 n1)).setCell ⟨w.heap.size, 2, none⟩ (.int .u32 n2)).setCell ⟨w.heap.size, 3, none⟩ (.int .u32 n3)) (some w.heap.size) :=
      grown_put (grown_put (grown_put (grown_put (World.grownBy.refl w8 (some w.heap.size)) 0 _) 1 _) 2 _) 3 _
    have HO9 := Lib.hid ((HO8.out.kept GR (fun e => by injection e; omega)).le (show w.heap.size ≤ w7.drew.heap.size from hw7))
    have HB9 : Hid (Below w.heap.size w ((((w8.setCell ⟨w.heap.size, 0, none⟩ (.int .u8 k)).setCell ⟨w.heap.size, 1, none⟩ (.int .u32 n1)).setCell ⟨w.heap.size, 2, none⟩ (.int .u32 n2)).setCell ⟨w.heap.size, 3, none⟩ (.int .u32 n3))) :=
      Lib.hid ((HB7.out.trans (HB8.out.mono hw7)).grown GR (by have := HB8.out.size; omega) (fun j hj => by injection hj; omega))
    clear GR hgb hgr K1 g0 g1 g2 g3 k0 k1 k2 k3
    go_wp2_with fail
    refine bodyPost_ret (v := .tuple #[.agg #[.int .u8 k, .int .u32 n1, .int .u32 n2, .int .u32 n3], .slice (some ⟨g, 0, none⟩) 16 cap, .nilIface]) (by simp [results, Tryz.results137, go_sem, d0, d1, d2, d3]) rfl ⟨g, cap, ?_, HO9.out, HB9.out⟩
    obtain ⟨m1, m2, m3⟩ := HN.out
    rw [HK0.out, m1, m2, m3])
end Go.Proofs.YthmpimjmajoimaaGreatDoor
namespace Go.Proofs.YthmpimjmajoimaaGreatDoor
open Go.RowKit

def RBytesOk (k s i q : Int) (blk : List Int) (w : World) (r : Ending) (w' : World) : Prop :=
  ∃ g cap, r = .returned (.tuple #[.slice (some ⟨g, 0, none⟩) 33 cap, .int .i64 0]) ∧ Own8 w' w.heap.size g cap (pageB k s i q blk) ∧ Below w.heap.size w w'
set_option maxHeartbeats 4000000 in
set_option maxRecDepth 100000 in
theorem rbytes_ok (k s i q : Int) (b o : Nat) (blk : List Int) (c : Nat) (w : World) (hr : Rd w w.heap.size (some ⟨b, o, none⟩) blk) (hbb : Byt blk) (hl : blk.length = 16) (_hc : 16 ≤ c) (hk : rightK k = true) (s0 : 0 ≤ s ∧ s ≤ 4294967295) (i0 : 0 ≤ i ∧ i ≤ 4294967295) (q0 : 0 ≤ q ∧ q ≤ 4294967295) :
    Calls Tryz.prog 42 #[.agg #[.int .u8 k, .int .u32 s, .int .u32 i, .int .u32 q], .slice (some ⟨b, o, none⟩) 16 c] w (RBytesOk k s i q blk w) := by
  have HR := Lib.hid hr
  have HBB := Lib.hid hbb
  have HL := Lib.hid hl
  have HB0 := Lib.hid ((Below.refl w.heap.size w).alloc (Nat.le_refl _) (.cells #[.int .u8 k, .int .u32 s, .int .u32 i, .int .u32 q] 97))
  have HH0 : Hid (Blk (w.alloc (.cells #[.int .u8 k, .int .u32 s, .int .u32 i, .int .u32 q] 97)) w.heap.size 97 [.int .u8 k, .int .u32 s, .int .u32 i, .int .u32 q]) := Lib.hid (heap_alloc_new w _)
  clear hr hbb hl
  go_enter Tryz.func42, Tryz.ntmps42
  go_wp2_with fail
  refine (rright_isq1 k s i q _).mono ?_
  rintro r w1 ⟨rfl, hb⟩
  have HB1 := Lib.hid (HB0.out.trans (hb.mono HB0.out.size))
  have HH1 := Lib.hid (HH0.out.up hb (lt_of_block HH0.out))
  clear hb HB0 HH0
  rw [hk]
  have hwg := lt_of_block HH1.out
  have l0 := HH1.out.cell 0 (by simp)
  have HB2 := Lib.hid (HB1.out.alloc HB1.out.size (.cells #[.int .u8 k] 5))
  have HO2 := Lib.hid (Own8.one w1 (w.heap.size + 1) k hwg)
  have HH2 := Lib.hid (HH1.out.up (Below.alloc (Below.refl w1.heap.size w1) (Nat.le_refl _) (.cells #[.int .u8 k] 5)) hwg)
  have l1 := HH2.out.cell 1 (by simp)
  clear HB1 HH1
  go_wp2_with fail
  obtain ⟨w2, hw2⟩ : ∃ w2 : World, w2 = w1.alloc (.cells #[.int .u8 k] 5) := ⟨_, rfl⟩
  rw [← hw2] at HB2 HO2 HH2 l1 ⊢
  clear hw2 l0
  refine (four_isq1 s _ s0.1 s0.2).mono ?_
  rintro r w' ⟨rfl, rfl⟩
  have HB2f := Lib.hid (HB2.out.alloc HB2.out.size (fourObj s))
  have HO2f := Lib.hid (HO2.out.up (Below.alloc (Below.refl (w2).heap.size (w2)) (Nat.le_refl _) (fourObj s)) (by simp))
  have HH2f := Lib.hid (HH2.out.up (Below.alloc (Below.refl (w2).heap.size (w2)) (Nat.le_refl _) (fourObj s)) (lt_of_block HH2.out))
  go_wp2_with (first
    | (at_builtin; refine app8 _ rfl (.tmp 17) (.tmp 20) rfl (w.heap.size + 1) ((w2).heap.size + 1) w1.heap.size 1 1 4 4 ([k]) (four s) (some ⟨(w2).heap.size, 0, none⟩) rfl HO2f.out rfl rfl (rd_four s (w2)) rfl (fun h => by cases h) (by omega) (by omega) (Nat.le_trans (lt_of_block HH2.out) (by simp)) ?_; intro g3 cap3 w3 ho hg; have HO3 := Lib.hid ho; have HB3 := Lib.hid (HB2f.out.grown hg HB2f.out.size (fun j hj => by injection hj; have := (HO2f.out.base (by simp)).1; omega)); have HH3 := Lib.hid (HH2f.out.kept hg (fun e => by injection e; have := (HO2f.out.base (by simp)).1; omega)); clear ho hg HB2f HO2f HH2f HB2 HO2 HH2; have l2 := HH3.out.cell 2 (by simp);)
    | fail)
  refine (four_isq1 i _ i0.1 i0.2).mono ?_
  rintro r w' ⟨rfl, rfl⟩
  have HB3f := Lib.hid (HB3.out.alloc HB3.out.size (fourObj i))
  have HO3f := Lib.hid (HO3.out.up (Below.alloc (Below.refl (w3).heap.size (w3)) (Nat.le_refl _) (fourObj i)) (by simp))
  have HH3f := Lib.hid (HH3.out.up (Below.alloc (Below.refl (w3).heap.size (w3)) (Nat.le_refl _) (fourObj i)) (lt_of_block HH3.out))
  go_wp2_with (first
    | (at_builtin; refine app8 _ rfl (.tmp 22) (.tmp 25) rfl (w.heap.size + 1) ((w3).heap.size + 1) g3 cap3 5 4 4 ([k] ++ four s) (four i) (some ⟨(w3).heap.size, 0, none⟩) rfl HO3f.out rfl rfl (rd_four i (w3)) rfl (fun h => by cases h) (by omega) (by omega) (Nat.le_trans (lt_of_block HH3.out) (by simp)) ?_; intro g4 cap4 w4 ho hg; have HO4 := Lib.hid ho; have HB4 := Lib.hid (HB3f.out.grown hg HB3f.out.size (fun j hj => by injection hj; have := (HO3f.out.base (by simp)).1; omega)); have HH4 := Lib.hid (HH3f.out.kept hg (fun e => by injection e; have := (HO3f.out.base (by simp)).1; omega)); clear ho hg HB3f HO3f HH3f HB3 HO3 HH3; have l3 := HH4.out.cell 3 (by simp);)
    | fail)
  refine (four_isq1 q _ q0.1 q0.2).mono ?_
  rintro r w' ⟨rfl, rfl⟩
  have HB4f := Lib.hid (HB4.out.alloc HB4.out.size (fourObj q))
  have HO4f := Lib.hid (HO4.out.up (Below.alloc (Below.refl (w4).heap.size (w4)) (Nat.le_refl _) (fourObj q)) (by simp))
  have HH4f := Lib.hid (HH4.out.up (Below.alloc (Below.refl (w4).heap.size (w4)) (Nat.le_refl _) (fourObj q)) (lt_of_block HH4.out))
  go_wp2_with (first
    | (at_builtin; refine app8 _ rfl (.tmp 27) (.tmp 30) rfl (w.heap.size + 1) ((w4).heap.size + 1) g4 cap4 9 4 4 ([k] ++ four s ++ four i) (four q) (some ⟨(w4).heap.size, 0, none⟩) rfl HO4f.out rfl rfl (rd_four q (w4)) rfl (fun h => by cases h) (by omega) (by omega) (Nat.le_trans (lt_of_block HH4.out) (by simp)) ?_; intro g5 cap5 w5 ho hg; have HO5 := Lib.hid ho; have HB5 := Lib.hid (HB4f.out.grown hg HB4f.out.size (fun j hj => by injection hj; have := (HO4f.out.base (by simp)).1; omega)); have HH5 := Lib.hid (HH4f.out.kept hg (fun e => by injection e; have := (HO4f.out.base (by simp)).1; omega)); clear ho hg HB4f HO4f HH4f HB4 HO4 HH4;)
    | (at_builtin; refine app8 _ rfl (.tmp 32) (.tmp 33) rfl w5.heap.size w5.heap.size w5.heap.size 0 0 13 cap5 [] ([k] ++ four s ++ four i ++ four q) (some ⟨g5, 0, none⟩) rfl (Own8.none w5 w5.heap.size (Nat.le_refl _)) rfl rfl (Rd.mono (HO5.out.rd) (Nat.le_refl _) |>.below (Below.alloc (Below.refl w5.heap.size w5) (Nat.le_refl _) _)) rfl (fun h => by cases h) (by omega) (by omega) (by simp) ?_; intro g6 cap6 w6 ho hg; have HB6 := Lib.hid ((HB5.out.alloc HB5.out.size (.cells #[] 5)).grown hg (HB5.out.alloc HB5.out.size (.cells #[] 5)).size (fun j hj => by injection hj; have := HB5.out.size; omega)); have hg5 := HO5.out.base (by simp); have HO56 := Lib.hid ((HO5.out.up (Below.alloc (Below.refl w5.heap.size w5) (Nat.le_refl _) (.cells #[] 5)) (by simp)).kept hg (fun e => by injection e; omega)); have HT6 := Lib.hid ho; clear ho hg HB5)
    | (at_builtin; refine app8 _ rfl (.tmp 34) (.tmp 35) rfl w5.heap.size w.heap.size g6 cap6 13 16 c ([] ++ ([k] ++ four s ++ four i ++ four q)) blk (some ⟨b, o, none⟩) rfl HT6.out rfl rfl (HR.out.below HB6.out) HL.out (fun h => by cases h) (by omega) (by omega) (Nat.le_of_lt (Nat.lt_of_le_of_lt (HT6.out.base (by simp)).1 (HT6.out.base (by simp)).2)) ?_; intro g7 cap7 w7 ho hg; have hg6 := HT6.out.base (by simp); have HB7 := Lib.hid (HB6.out.grown hg HB6.out.size (fun j hj => by injection hj; omega)); have HO7 := Lib.hid (HO56.out.kept hg (fun e => by injection e; omega)); have HT7 := Lib.hid ho; clear ho hg HB6 HO5 HO56)
    | fail)
  obtain ⟨n, hn⟩ : ∃ n, sumN (headB k s i q ++ blk) = n := ⟨_, rfl⟩
  have hpage : [k] ++ four s ++ four i ++ four q ++ four n ++ blk = pageB k s i q blk := by
    rw [← hn]
    simp [pageB, headB]
  have hnb := sumN_bd (headB k s i q ++ blk)
  rw [hn] at hnb
  have n0 : 0 ≤ n ∧ n ≤ 4294967295 := by omega
  have HP := Lib.hid hpage
  have HN := Lib.hid hn
  have hkp := right_pos hk
  have HX7 : Hid (Byt ([] ++ ([k] ++ four s ++ four i ++ four q) ++ blk)) := Lib.hid (show Byt (headB k s i q ++ blk) from (byt_head s i q (by omega) (by omega)).app HBB.out)
  clear hn hpage hnb
  refine (rof_at (n := 29) (c := cap7) HX7.out HT7.out.rd (by simp [HL.out, four_len]) (by omega) (show sumN ([] ++ ([k] ++ four s ++ four i ++ four q) ++ blk) = n from HN.out)).mono ?_
  rintro r w' ⟨rfl, rfl⟩
  have HB8 := Lib.hid HB7.out
  have HO8 := Lib.hid HO7.out
  clear HB7 HO7 HT7 HX7 HT6
  go_wp2_with fail
  refine (four_isq1 n _ n0.1 n0.2).mono ?_
  rintro r w' ⟨rfl, rfl⟩
  have HB8f := Lib.hid (HB8.out.alloc HB8.out.size (fourObj n))
  have HO8f := Lib.hid (HO8.out.up (Below.alloc (Below.refl w7.heap.size w7) (Nat.le_refl _) (fourObj n)) (by simp))
  have hwb8 := (HO8.out.base (by simp)).2
  have hwb9 := (HO8.out.base (by simp)).1
  go_wp2_with (first
    | (at_builtin; refine app8 _ rfl (.tmp 38) (.tmp 40) rfl (w.heap.size + 1) (w7.heap.size + 1) g5 cap5 13 4 4 ([k] ++ four s ++ four i ++ four q) (four n) (some ⟨w7.heap.size, 0, none⟩) rfl HO8f.out rfl rfl (rd_four n w7) rfl (fun h => by cases h) (by omega) (by omega) (by simp; omega) ?_; intro g9 cap9 w9 ho hg; have HO9 := Lib.hid ho; have HB9 := Lib.hid (HB8f.out.grown hg HB8f.out.size (fun j hj => by injection hj; omega)); clear ho hg HB8f HO8f HB8 HO8)
    | (at_builtin; refine app8 _ rfl (.tmp 42) (.tmp 43) rfl (w.heap.size + 1) w.heap.size g9 cap9 17 16 c (([k] ++ four s ++ four i ++ four q) ++ four n) blk (some ⟨b, o, none⟩) rfl HO9.out rfl rfl (HR.out.below HB9.out) HL.out (fun h => by cases h) (by omega) (by omega) (by have := HO9.out.base (by simp); omega) ?_; intro g10 cap10 w10 ho hg; have hg9 := HO9.out.base (by simp); have HO10 := Lib.hid ho; have HB10 := Lib.hid (HB9.out.grown hg HB9.out.size (fun j hj => by injection hj; omega)); clear ho hg)
    | fail)
  go_ret2
  refine ⟨g10, cap10, rfl, ?_, HB10.out⟩
  have := HO10.out.le (show w.heap.size ≤ w.heap.size + 1 by omega)
  rwa [HP.out] at this
end Go.Proofs.YthmpimjmajoimaaGreatDoor
namespace Go.Proofs.YthmpimjmajoimaaGreatDoor
open Go.RowKit

/-- append of bytes onto a row of the call's own, as one step of a region that draws. -/
theorem step8 {ops : Array Oper} {o : Oper} {a : Act} {w : World} {K : Act → World → Prop} {Q : Exit → Act → World → Prop} {E : Prop} (hgd : o.guard = none) (s x : Operand) (ho : o.op = .call { callee := .builtin .append, args := #[s, x], argTypes := #[61, 61] })
    (base B g cap n m c b p : Nat) (ys xs : List Int) (hs : a.eval s = .slice (some ⟨g, 0, none⟩) n cap) (hown : Own8 w base g cap ys) (hn : ys.length = n) (hx : a.eval x = .slice (some ⟨b, p, none⟩) m c) (hr : Rd w B (some ⟨b, p, none⟩) xs) (hm : xs.length = m)
    (hpos : 0 < m) (hlen : n + m ≤ 1000000) (hbase : base ≤ w.heap.size)
    (h : ∀ g' cap' w', Own8 w' base g' cap' (ys ++ xs) → w.grownBy w' (some g) → K (a.put o.dst (.slice (some ⟨g', 0, none⟩) (n + m) cap')) w') :
    if Region.wanted o (yielded ops a.tmps) = true then Oper.wp Tryz.prog o a w K Q else E := by
  obtain ⟨i0, hi, hz0, hz1, hz2⟩ := info_parts byteInfo
  subst hn hm
  refine step_append_lies w hgd s x 61 ho base 5 i0 (.int .u8 0) 1 1 Tryz.underlying61 hi hz0 hz1 hz2 rfl (by decide) _ ys.length (cellsOf8 ys) hs hown ⟨b, p, none⟩ xs.length c (cellsOf8 xs) hx (by simp [cellsOf8]) (rd_src hr) one8 hpos (by unfold maxLen; omega) (by omega) hbase w.heap.size rfl ?_
  intro g' cap' w' h2 h3 _ _
  refine h g' cap' w' ?_ h3
  unfold Own8
  rw [List.length_append]
  simpa [cellsOf8] using h2

def RReadNo (e : Int) (w : World) (r : Ending) (w' : World) : Prop := r = .returned (.tuple #[.agg #[.int .u8 0, .int .u32 0, .int .u32 0, .int .u32 0], .slice none 0 0, .int .i64 e]) ∧ Below w.heap.size w w'
def RReadOk (ps : List Int) (w : World) (r : Ending) (w' : World) : Prop :=
  ∃ g cap, r = .returned (.tuple #[.agg #[.int .u8 (ps.getD 0 0), .int .u32 (bk ps 1), .int .u32 (bk ps 5), .int .u32 (bk ps 9)], .slice (some ⟨g, 0, none⟩) 16 cap, .int .i64 0]) ∧ Own8 w' w.heap.size g cap (ps.drop 17) ∧ Below w.heap.size w w'
theorem rread_short (A : Option Addr) (n c : Nat) (w : World) (hn : n ≠ 33) : Calls Tryz.prog 54 #[.slice A n c] w (RReadNo 3 w) := by
  have HB0 := Lib.hid ((Below.refl w.heap.size w).alloc (Nat.le_refl _) (.cells #[.int .u8 0, .int .u32 0, .int .u32 0, .int .u32 0] 97))
  have q1 : ((n : Int) == 33) = false := by simp; omega
  go_enter Tryz.func54, Tryz.ntmps54
  go_wp2_with fail
  refine bodyPost_ret (v := .tuple #[.agg #[.int .u8 0, .int .u32 0, .int .u32 0, .int .u32 0], .slice none 0 0, .int .i64 3]) (by simp [results, Tryz.results54, go_sem]) rfl ⟨rfl, ?_⟩
  exact HB0.out

/-- The result variable, and the row of all bytes but the sum's. -/
def KeptRq1 (w : World) (g : Nat) (all : List Int) (u : World) : Prop := Below w.heap.size w u ∧ Blk u w.heap.size 97 [.int .u8 0, .int .u32 0, .int .u32 0, .int .u32 0] ∧ Rd u u.heap.size (some ⟨g, 0, none⟩) all
theorem KeptRq1.up {w : World} {g : Nat} {all : List Int} {a u : World} (h : KeptRq1 w g all a) (hb : Below a.heap.size a u) : KeptRq1 w g all u := ⟨below_all h.1 hb, h.2.1.up hb (lt_of_block h.2.1), (h.2.2.below hb).mono hb.size⟩
/-- The document's number of four bytes of a page. -/
theorem rback_at {b o k c : Nat} {v : Int} {ps : List Int} {w u : World} (hr : Rd w w.heap.size (some ⟨b, o, none⟩) ps) (hx : Byt ps) (hk : k + 4 ≤ ps.length) (hv : bk ps k = v) (hb : Below w.heap.size w u) : Calls Tryz.prog 91 #[.slice (some ⟨b, o + k, none⟩) 4 c] u (NumB v u) := by
  subst hv
  obtain ⟨x0, x1, x2, x3, hn, b0, b1, b2, b3, c0, c1, c2, c3⟩ := rd_four_at k (hr.below hb) hx hk
  rw [hn]
  exact rback_is b (o + k) c x0 x1 x2 x3 u c0 c1 c2 c3 b0 b1 b2 b3

set_option maxHeartbeats 2000000 in
set_option maxRecDepth 100000 in
theorem rread_sum (b o c : Nat) (ps : List Int) (w : World) (hr : Rd w w.heap.size (some ⟨b, o, none⟩) ps) (hx : Byt ps) (hl : ps.length = 33) (hc : 33 ≤ c) (hs : bk ps 13 ≠ tot ps) : Calls Tryz.prog 54 #[.slice (some ⟨b, o, none⟩) 33 c] w (RReadNo 4 w) := by
  obtain ⟨_, _, hA, hbl, _⟩ := hr (by omega)
  injection hA with hA
  injection hA with e1 e2
  subst e1 e2
  have HR := Lib.hid hr
  have HX := Lib.hid hx
  have HL := Lib.hid hl
  have HS : Hid ((tot ps == bk ps 13) = false) := Lib.hid (by simpa using fun e => hs e.symm)
  have HB0 := Lib.hid ((Below.refl w.heap.size w).alloc (Nat.le_refl _) (.cells #[.int .u8 0, .int .u32 0, .int .u32 0, .int .u32 0] 97))
  have HH0 : Hid (Blk (w.alloc (.cells #[.int .u8 0, .int .u32 0, .int .u32 0, .int .u32 0] 97)) w.heap.size 97 [.int .u8 0, .int .u32 0, .int .u32 0, .int .u32 0]) := Lib.hid (heap_alloc_new w _)
  clear hr hx hl hs
  go_enter Tryz.func54, Tryz.ntmps54
  go_wp2_with fail
  obtain ⟨w1, hw1⟩ : ∃ w1 : World, w1 = w.alloc (.cells #[.int .u8 0, .int .u32 0, .int .u32 0, .int .u32 0] 97) := ⟨_, rfl⟩
  rw [← hw1] at HB0 HH0 ⊢
  clear hw1
  have i1 : (13 : Int) ≤ (c : Int) := by omega
  have i2 : (17 : Int) ≤ (c : Int) := by omega
  have i3 : (c = 17) = False := by simp; omega
  have i4 : (c = 13) = False := by simp; omega
  have hw1 := lt_of_block HH0.out
  have HE := Lib.hid (Below.alloc (Below.refl w1.heap.size w1) (Nat.le_refl _) (.cells #[] 5)).drew
  go_region_law (first
    | (refine step8 rfl (.tmp 11) (.tmp 13) rfl w1.heap.size w.heap.size w1.heap.size 0 0 13 c b o [] (ps.take 13) rfl (show Own8 _ w1.heap.size w1.heap.size 0 [] from Own8.none w1 w1.heap.size (Nat.le_refl _)) rfl rfl (((HR.out.below HB0.out).take 13).below (HE.out.mono HB0.out.size)) (by simp [HL.out]) (by omega) (by omega) (by simp) ?_; intro g2 cap2 w2 ho hg; have HO2 := Lib.hid ho; have HB2 := Lib.hid ((HB0.out.trans (HE.out.mono HB0.out.size)).grown hg (HB0.out.trans (HE.out.mono HB0.out.size)).size (fun j hj => by injection hj; omega)); have HH2 := Lib.hid ((HH0.out.up HE.out hw1).kept hg (fun e => by injection e; omega)); clear ho hg)
    | (refine step8 rfl (.tmp 14) (.tmp 16) rfl w1.heap.size w.heap.size g2 cap2 13 16 (c - 17) b (o + 17) ([] ++ ps.take 13) (ps.drop 17) rfl HO2.out (by simp [HL.out]) rfl ((HR.out.below HB2.out).drop 17) (by simp [HL.out]) (by omega) (by omega) (by have := HO2.out.base (by simp [HL.out]); omega) ?_; intro g3 cap3 w3 ho hg; have hg2 := HO2.out.base (by simp [HL.out]); have HO3 := Lib.hid ho; have HB3 := Lib.hid (HB2.out.grown hg HB2.out.size (fun j hj => by injection hj; omega)); have HH3 := Lib.hid (HH2.out.kept hg (fun e => by injection e; omega)); clear ho hg))
  have HAll : Hid (Byt (ps.take 13 ++ ps.drop 17)) := Lib.hid ((HX.out.take 13).app (fun x hx => HX.out x (List.mem_of_mem_drop hx)))
  have HK : Hid (KeptRq1 w g3 (ps.take 13 ++ ps.drop 17) w3.drew) := Lib.hid ⟨HB3.out.drew, HH3.out, HO3.out.rd⟩
  clear HO2 HB2 HH2 HE HB0 HH0 HO3 HB3 HH3
  go_wp2_with fail
  simp only [Act.put, List.getElem_toArray, List.getElem_cons_succ, List.getElem_cons_zero, List.setIfInBounds_toArray, List.set_cons_zero, List.set_cons_succ]
  refine wp_region_in (KeptRq1 w g3 (ps.take 13 ++ ps.drop 17)) HK.out (by kernel_rfl) (by kernel_rfl) (fun ne => ?_)
  have ofD : ∀ n : In (KeptRq1 w g3 (ps.take 13 ++ ps.drop 17)), Calls Tryz.prog 81 #[.slice (some ⟨g3, 0, none⟩) 29 cap3] n.w (NumIs (tot ps) n.w) := fun n => rof_at HAll.out n.ok.2.2 (by simp [HL.out]) (by omega) rfl
  have bkD : ∀ n : In (KeptRq1 w g3 (ps.take 13 ++ ps.drop 17)), Calls Tryz.prog 91 #[.slice (some ⟨b, o + 13, none⟩) 4 (c - 13)] n.w (NumB (bk ps 13) n.w) := fun n => rback_at HR.out HX.out (by rw [HL.out]; omega) rfl n.ok.1
  have q1 := HS.out
  obtain ⟨v, hv⟩ : ∃ v, bk ps 13 = v := ⟨_, rfl⟩
  obtain ⟨t, ht⟩ : ∃ t, tot ps = t := ⟨_, rfl⟩
  rw [hv] at bkD q1
  rw [ht] at ofD q1
  clear hv ht
  repeat (go_big_quiet_step (first
    | (go_at_call 81; with_reducible exact In.same (ofD _))
    | (go_at_call 91; with_reducible exact In.more KeptRq1.up (bkD _))))
  refine wpQuiet_nil ?_
  intro nq
  have HK2 := Lib.hid nq.ok
  clear ofD bkD HK HS HR HX HL HAll
  have d0 := HK2.out.2.1.cell 0 (by simp)
  have d1 := HK2.out.2.1.cell 1 (by simp)
  have d2 := HK2.out.2.1.cell 2 (by simp)
  have d3 := HK2.out.2.1.cell 3 (by simp)
  have f0 := HK2.out.2.1.free 0
  have f1 := HK2.out.2.1.free 1
  have f2 := HK2.out.2.1.free 2
  have f3 := HK2.out.2.1.free 3
  go_wp2_with fail
  refine bodyPost_ret (v := .tuple #[.agg #[.int .u8 0, .int .u32 0, .int .u32 0, .int .u32 0], .slice none 0 0, .int .i64 4]) (by simp [results, Tryz.results54, go_sem, d0, d1, d2, d3]) rfl ⟨rfl, ?_⟩
  exact (((HK2.out.1.setCell (p := ⟨w.heap.size, 0, none⟩) (Nat.le_refl _) _).setCell (p := ⟨w.heap.size, 1, none⟩) (Nat.le_refl _) _).setCell (p := ⟨w.heap.size, 2, none⟩) (Nat.le_refl _) _).setCell (p := ⟨w.heap.size, 3, none⟩) (Nat.le_refl _) _
end Go.Proofs.YthmpimjmajoimaaGreatDoor
