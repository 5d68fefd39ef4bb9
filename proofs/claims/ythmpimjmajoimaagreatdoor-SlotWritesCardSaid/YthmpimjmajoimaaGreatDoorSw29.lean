/-
  The document's Read: a Kind that may not be, and a page that comes back.
-/
import Derived.Test.YthmpimjmajoimaaGreatDoorSw28
namespace Go.Proofs.YthmpimjmajoimaaGreatDoor
open Go.RowKit

theorem blk4 {w : World} {h : Nat} {T : TypeId} {a b c d : Value} (H : Blk w h T [a, b, c, d]) (x0 x1 x2 x3 : Value) : Blk ((((w.setCell ⟨h, 0, none⟩ x0).setCell ⟨h, 1, none⟩ x1).setCell ⟨h, 2, none⟩ x2).setCell ⟨h, 3, none⟩ x3) h T [x0, x1, x2, x3] :=
  (((H.put 0 x0).put 1 x1).put 2 x2).put 3 x3
theorem grown4 (w : World) (h : Nat) (x0 x1 x2 x3 : Value) : w.grownBy ((((w.setCell ⟨h, 0, none⟩ x0).setCell ⟨h, 1, none⟩ x1).setCell ⟨h, 2, none⟩ x2).setCell ⟨h, 3, none⟩ x3) (some h) :=
  grown_put (grown_put (grown_put (grown_put (World.grownBy.refl w (some h)) 0 _) 1 _) 2 _) 3 _

set_option maxHeartbeats 2000000 in
set_option maxRecDepth 100000 in
theorem rread_form (b o c : Nat) (ps : List Int) (w : World) (hr : Rd w w.heap.size (some ⟨b, o, none⟩) ps) (hx : Byt ps) (hl : ps.length = 33) (hc : 33 ≤ c) (hs : bk ps 13 = tot ps) (hk : rightK (ps.getD 0 0) = false) : Calls Tryz.prog 54 #[.slice (some ⟨b, o, none⟩) 33 c] w (RReadNo 2 w) := by
  obtain ⟨_, _, hA, hbl, _⟩ := hr (by omega)
  injection hA with hA
  injection hA with e1 e2
  subst e1 e2
  have HR := Lib.hid hr
  have HX := Lib.hid hx
  have HL := Lib.hid hl
  have HS : Hid ((tot ps == bk ps 13) = true) := Lib.hid (by simpa using hs.symm)
  have HB0 := Lib.hid ((Below.refl w.heap.size w).alloc (Nat.le_refl _) (.cells #[.int .u8 0, .int .u32 0, .int .u32 0, .int .u32 0] 97))
  have HH0 : Hid (Blk (w.alloc (.cells #[.int .u8 0, .int .u32 0, .int .u32 0, .int .u32 0] 97)) w.heap.size 97 [.int .u8 0, .int .u32 0, .int .u32 0, .int .u32 0]) := Lib.hid (heap_alloc_new w _)
  clear hr hx hl hs
  go_enter Tryz.func54, Tryz.ntmps54
  go_wp2_with fail
  obtain ⟨w1, hw1⟩ : ∃ w1 : World, w1 = w.alloc (.cells #[.int .u8 0, .int .u32 0, .int .u32 0, .int .u32 0] 97) := ⟨_, rfl⟩
  rw [← hw1] at HB0 HH0 ⊢
  clear hw1
  have i1 : (13 : Int) ≤ (c : Int) := by omega
  have i2 : (17 : Int) ≤ (c : Int) := by omega
  have i3 : (c = 17) = False := by simp; omega
  have i4 : (c = 13) = False := by simp; omega
  have hw1 := lt_of_block HH0.out
  have HE := Lib.hid (Below.alloc (Below.refl w1.heap.size w1) (Nat.le_refl _) (.cells #[] 5)).drew
  go_region_law (first
    | (refine step8 rfl (.tmp 11) (.tmp 13) rfl w1.heap.size w.heap.size w1.heap.size 0 0 13 c b o [] (ps.take 13) rfl (show Own8 _ w1.heap.size w1.heap.size 0 [] from Own8.none w1 w1.heap.size (Nat.le_refl _)) rfl rfl (((HR.out.below HB0.out).take 13).below (HE.out.mono HB0.out.size)) (by simp [HL.out]) (by omega) (by omega) (by simp) ?_; intro g2 cap2 w2 ho hg; have HO2 := Lib.hid ho; have HB2 := Lib.hid ((HB0.out.trans (HE.out.mono HB0.out.size)).grown hg (HB0.out.trans (HE.out.mono HB0.out.size)).size (fun j hj => by injection hj; omega)); have HH2 := Lib.hid ((HH0.out.up HE.out hw1).kept hg (fun e => by injection e; omega)); clear ho hg)
    | (refine step8 rfl (.tmp 14) (.tmp 16) rfl w1.heap.size w.heap.size g2 cap2 13 16 (c - 17) b (o + 17) ([] ++ ps.take 13) (ps.drop 17) rfl HO2.out (by simp [HL.out]) rfl ((HR.out.below HB2.out).drop 17) (by simp [HL.out]) (by omega) (by omega) (by have := HO2.out.base (by simp [HL.out]); omega) ?_; intro g3 cap3 w3 ho hg; have hg2 := HO2.out.base (by simp [HL.out]); have HO3 := Lib.hid ho; have HB3 := Lib.hid (HB2.out.grown hg HB2.out.size (fun j hj => by injection hj; omega)); have HH3 := Lib.hid (HH2.out.kept hg (fun e => by injection e; omega)); clear ho hg))
  have HAll : Hid (Byt (ps.take 13 ++ ps.drop 17)) := Lib.hid ((HX.out.take 13).app (fun x hx => HX.out x (List.mem_of_mem_drop hx)))
  have HK : Hid (KeptRq1 w g3 (ps.take 13 ++ ps.drop 17) w3.drew) := Lib.hid ⟨HB3.out.drew, HH3.out, HO3.out.rd⟩
  clear HO2 HB2 HH2 HE HB0 HH0 HO3 HB3 HH3
  go_wp2_with fail
  simp only [Act.put, List.getElem_toArray, List.getElem_cons_succ, List.getElem_cons_zero, List.setIfInBounds_toArray, List.set_cons_zero, List.set_cons_succ]
  refine wp_region_in (KeptRq1 w g3 (ps.take 13 ++ ps.drop 17)) HK.out (by kernel_rfl) (by kernel_rfl) (fun ne => ?_)
  have ofD : ∀ n : In (KeptRq1 w g3 (ps.take 13 ++ ps.drop 17)), Calls Tryz.prog 81 #[.slice (some ⟨g3, 0, none⟩) 29 cap3] n.w (NumIs (tot ps) n.w) := fun n => rof_at HAll.out n.ok.2.2 (by simp [HL.out]) (by omega) rfl
  have bkD : ∀ n : In (KeptRq1 w g3 (ps.take 13 ++ ps.drop 17)), Calls Tryz.prog 91 #[.slice (some ⟨b, o + 13, none⟩) 4 (c - 13)] n.w (NumB (bk ps 13) n.w) := fun n => rback_at HR.out HX.out (by rw [HL.out]; omega) rfl n.ok.1
  have q1 := HS.out
  obtain ⟨v, hv⟩ : ∃ v, bk ps 13 = v := ⟨_, rfl⟩
  obtain ⟨t, ht⟩ : ∃ t, tot ps = t := ⟨_, rfl⟩
  rw [hv] at bkD q1
  rw [ht] at ofD q1
  clear hv ht
  repeat (go_big_quiet_step (first
    | (go_at_call 81; with_reducible exact In.same (ofD _))
    | (go_at_call 91; with_reducible exact In.more KeptRq1.up (bkD _))))
  refine wpQuiet_nil ?_
  intro nq
  have HK2 := Lib.hid nq.ok
  have KS : ∀ u, Below w.heap.size w u → u.cell? ⟨b, o, none⟩ = some (.int .u8 (ps.getD 0 0)) := fun u hu => by
    obtain ⟨b', o', hA, _, hcc⟩ := (HR.out.below hu) (by rw [HL.out]; omega)
    injection hA with hA
    injection hA with e1 e2
    subst e1 e2
    have := hcc 0 (by rw [HL.out]; omega)
    rw [Nat.add_zero] at this
    rw [this]
    simp [List.getD_eq_getElem?_getD, HL.out]
  have R1 := fun u (hb : Below w.heap.size w u) => rback_at (k := 1) (c := c - 1) HR.out HX.out (by rw [HL.out]; omega) rfl hb
  have R2 := fun u (hb : Below w.heap.size w u) => rback_at (k := 5) (c := c - 5) HR.out HX.out (by rw [HL.out]; omega) rfl hb
  have R3 := fun u (hb : Below w.heap.size w u) => rback_at (k := 9) (c := c - 9) HR.out HX.out (by rw [HL.out]; omega) rfl hb
  obtain ⟨k, hk0⟩ : ∃ k, ps.getD 0 0 = k := ⟨_, rfl⟩
  obtain ⟨n1, hn1⟩ : ∃ n, bk ps 1 = n := ⟨_, rfl⟩
  obtain ⟨n2, hn2⟩ : ∃ n, bk ps 5 = n := ⟨_, rfl⟩
  obtain ⟨n3, hn3⟩ : ∃ n, bk ps 9 = n := ⟨_, rfl⟩
  rw [hk0] at KS hk
  rw [hn1] at R1
  rw [hn2] at R2
  rw [hn3] at R3
  have HN := Lib.hid (And.intro hk0 (And.intro hn1 (And.intro hn2 hn3)))
  have HBc : Hid (Below w.heap.size w nq.w.drew) := Lib.hid HK2.out.1.drew
  have HHc : Hid (Blk nq.w.drew w.heap.size 97 [.int .u8 0, .int .u32 0, .int .u32 0, .int .u32 0]) := Lib.hid HK2.out.2.1
  clear hk0 hn1 hn2 hn3 ofD bkD HK HS HAll
  have cp := KS _ HK2.out.1
  have i5 : (5 : Int) ≤ (c : Int) := by omega
  have i6 : (9 : Int) ≤ (c : Int) := by omega
  have i7 : (c = 1) = False := by simp; omega
  have i8 : (c = 5) = False := by simp; omega
  have i9 : (c = 9) = False := by simp; omega
  go_wp2_with fail
  have HBa : Hid (Below w.heap.size w (nq.w.alloc (.cells #[.int .u8 0, .int .u32 0, .int .u32 0, .int .u32 0] 97)).drew) := Lib.hid (HK2.out.1.alloc HK2.out.1.size _).drew
  have HHa : Hid (Blk (nq.w.alloc (.cells #[.int .u8 0, .int .u32 0, .int .u32 0, .int .u32 0] 97)).drew w.heap.size 97 [.int .u8 0, .int .u32 0, .int .u32 0, .int .u32 0]) := Lib.hid (HK2.out.2.1.up (Below.alloc (Below.refl nq.w.heap.size nq.w) (Nat.le_refl _) (.cells #[.int .u8 0, .int .u32 0, .int .u32 0, .int .u32 0] 97)).drew (lt_of_block HK2.out.2.1))
  have HXa : Hid (Blk (nq.w.alloc (.cells #[.int .u8 0, .int .u32 0, .int .u32 0, .int .u32 0] 97)).drew nq.w.heap.size 97 [.int .u8 0, .int .u32 0, .int .u32 0, .int .u32 0]) := Lib.hid (heap_alloc_new nq.w _)
  have hRn := lt_of_block HK2.out.2.1
  go_region_held3 (fun w' => w'.cell? ⟨b, o, none⟩ = some (.int .u8 k))
      (first | exact KS _ HBa.out | exact KS _ HBc.out | exact KS _ (HBc.out.alloc HBc.out.size _) | exact KS _ ((((HBc.out.setCell (p := ⟨h, 0, none⟩) hwh _).setCell (p := ⟨h, 1, none⟩) hwh _).setCell (p := ⟨h, 2, none⟩) hwh _).setCell (p := ⟨h, 3, none⟩) hwh _) | go_keep)
      (first
        | (go_at_call 91; (with_reducible refine (R1 _ HBc.out).mono ?_); rintro r w5 ⟨rfl, hb⟩; (try replace HXc := Lib.hid (HXc.out.up hb (lt_of_block HXc.out))); replace HBc := Lib.hid (HBc.out.trans (hb.mono HBc.out.size)); replace HHc := Lib.hid (HHc.out.up hb (lt_of_block HHc.out)); clear hb; (try (have e0 := HXc.out.cell 0 (by simp); have e1 := HXc.out.cell 1 (by simp); have e2 := HXc.out.cell 2 (by simp); have e3 := HXc.out.cell 3 (by simp); have p0 := HXc.out.free 0; have p1 := HXc.out.free 1; have p2 := HXc.out.free 2; have p3 := HXc.out.free 3)))
        | (go_at_call 91; (with_reducible refine (R2 _ HBc.out).mono ?_); rintro r w5 ⟨rfl, hb⟩; (try replace HXc := Lib.hid (HXc.out.up hb (lt_of_block HXc.out))); replace HBc := Lib.hid (HBc.out.trans (hb.mono HBc.out.size)); replace HHc := Lib.hid (HHc.out.up hb (lt_of_block HHc.out)); clear hb; (try (have e0 := HXc.out.cell 0 (by simp); have e1 := HXc.out.cell 1 (by simp); have e2 := HXc.out.cell 2 (by simp); have e3 := HXc.out.cell 3 (by simp); have p0 := HXc.out.free 0; have p1 := HXc.out.free 1; have p2 := HXc.out.free 2; have p3 := HXc.out.free 3)))
        | (go_at_call 91; (with_reducible refine (R3 _ HBc.out).mono ?_); rintro r w5 ⟨rfl, hb⟩; (try replace HXc := Lib.hid (HXc.out.up hb (lt_of_block HXc.out))); replace HBc := Lib.hid (HBc.out.trans (hb.mono HBc.out.size)); replace HHc := Lib.hid (HHc.out.up hb (lt_of_block HHc.out)); clear hb; (try (have e0 := HXc.out.cell 0 (by simp); have e1 := HXc.out.cell 1 (by simp); have e2 := HXc.out.cell 2 (by simp); have e3 := HXc.out.cell 3 (by simp); have p0 := HXc.out.free 0; have p1 := HXc.out.free 1; have p2 := HXc.out.free 2; have p3 := HXc.out.free 3)))
        | (go_at_call 91; (with_reducible refine (R1 _ (HBc.out.alloc HBc.out.size (.cells #[.int .u8 0, .int .u32 0, .int .u32 0, .int .u32 0] 97))).mono ?_); rintro r w6 ⟨rfl, hb⟩; obtain ⟨h, hh⟩ : ∃ h, w5.heap.size = h := ⟨_, rfl⟩; have hwh : w.heap.size ≤ h := (by have := HBc.out.size; omega); have HXc : Hid (Blk w6 h 97 [.int .u8 0, .int .u32 0, .int .u32 0, .int .u32 0]) := Lib.hid (Blk.up (show Blk (w5.alloc (.cells #[.int .u8 0, .int .u32 0, .int .u32 0, .int .u32 0] 97)) h _ _ by rw [← hh]; exact heap_alloc_new w5 _) hb (by rw [World.size_alloc]; omega)); have hneR : h ≠ w.heap.size := (by have := lt_of_block HHc.out; omega); replace HHc := Lib.hid ((HHc.out.up (Below.alloc (Below.refl w5.heap.size w5) (Nat.le_refl _) (.cells #[.int .u8 0, .int .u32 0, .int .u32 0, .int .u32 0] 97)) (lt_of_block HHc.out)).up hb (by rw [World.size_alloc]; have := lt_of_block HHc.out; omega)); replace HBc := Lib.hid ((HBc.out.alloc HBc.out.size (.cells #[.int .u8 0, .int .u32 0, .int .u32 0, .int .u32 0] 97)).trans (hb.mono (HBc.out.alloc HBc.out.size (.cells #[.int .u8 0, .int .u32 0, .int .u32 0, .int .u32 0] 97)).size)); clear hb; have e0 := HXc.out.cell 0 (by simp); have e1 := HXc.out.cell 1 (by simp); have e2 := HXc.out.cell 2 (by simp); have e3 := HXc.out.cell 3 (by simp); have p0 := HXc.out.free 0; have p1 := HXc.out.free 1; have p2 := HXc.out.free 2; have p3 := HXc.out.free 3; rw [hh])
        | (go_at_call 91; (with_reducible refine (R2 _ (HBc.out.alloc HBc.out.size (.cells #[.int .u8 0, .int .u32 0, .int .u32 0, .int .u32 0] 97))).mono ?_); rintro r w6 ⟨rfl, hb⟩; obtain ⟨h, hh⟩ : ∃ h, w5.heap.size = h := ⟨_, rfl⟩; have hwh : w.heap.size ≤ h := (by have := HBc.out.size; omega); have HXc : Hid (Blk w6 h 97 [.int .u8 0, .int .u32 0, .int .u32 0, .int .u32 0]) := Lib.hid (Blk.up (show Blk (w5.alloc (.cells #[.int .u8 0, .int .u32 0, .int .u32 0, .int .u32 0] 97)) h _ _ by rw [← hh]; exact heap_alloc_new w5 _) hb (by rw [World.size_alloc]; omega)); have hneR : h ≠ w.heap.size := (by have := lt_of_block HHc.out; omega); replace HHc := Lib.hid ((HHc.out.up (Below.alloc (Below.refl w5.heap.size w5) (Nat.le_refl _) (.cells #[.int .u8 0, .int .u32 0, .int .u32 0, .int .u32 0] 97)) (lt_of_block HHc.out)).up hb (by rw [World.size_alloc]; have := lt_of_block HHc.out; omega)); replace HBc := Lib.hid ((HBc.out.alloc HBc.out.size (.cells #[.int .u8 0, .int .u32 0, .int .u32 0, .int .u32 0] 97)).trans (hb.mono (HBc.out.alloc HBc.out.size (.cells #[.int .u8 0, .int .u32 0, .int .u32 0, .int .u32 0] 97)).size)); clear hb; have e0 := HXc.out.cell 0 (by simp); have e1 := HXc.out.cell 1 (by simp); have e2 := HXc.out.cell 2 (by simp); have e3 := HXc.out.cell 3 (by simp); have p0 := HXc.out.free 0; have p1 := HXc.out.free 1; have p2 := HXc.out.free 2; have p3 := HXc.out.free 3; rw [hh])
        | (go_at_call 91; (with_reducible refine (R3 _ (HBc.out.alloc HBc.out.size (.cells #[.int .u8 0, .int .u32 0, .int .u32 0, .int .u32 0] 97))).mono ?_); rintro r w6 ⟨rfl, hb⟩; obtain ⟨h, hh⟩ : ∃ h, w5.heap.size = h := ⟨_, rfl⟩; have hwh : w.heap.size ≤ h := (by have := HBc.out.size; omega); have HXc : Hid (Blk w6 h 97 [.int .u8 0, .int .u32 0, .int .u32 0, .int .u32 0]) := Lib.hid (Blk.up (show Blk (w5.alloc (.cells #[.int .u8 0, .int .u32 0, .int .u32 0, .int .u32 0] 97)) h _ _ by rw [← hh]; exact heap_alloc_new w5 _) hb (by rw [World.size_alloc]; omega)); have hneR : h ≠ w.heap.size := (by have := lt_of_block HHc.out; omega); replace HHc := Lib.hid ((HHc.out.up (Below.alloc (Below.refl w5.heap.size w5) (Nat.le_refl _) (.cells #[.int .u8 0, .int .u32 0, .int .u32 0, .int .u32 0] 97)) (lt_of_block HHc.out)).up hb (by rw [World.size_alloc]; have := lt_of_block HHc.out; omega)); replace HBc := Lib.hid ((HBc.out.alloc HBc.out.size (.cells #[.int .u8 0, .int .u32 0, .int .u32 0, .int .u32 0] 97)).trans (hb.mono (HBc.out.alloc HBc.out.size (.cells #[.int .u8 0, .int .u32 0, .int .u32 0, .int .u32 0] 97)).size)); clear hb; have e0 := HXc.out.cell 0 (by simp); have e1 := HXc.out.cell 1 (by simp); have e2 := HXc.out.cell 2 (by simp); have e3 := HXc.out.cell 3 (by simp); have p0 := HXc.out.free 0; have p1 := HXc.out.free 1; have p2 := HXc.out.free 2; have p3 := HXc.out.free 3; rw [hh])
        | (go_at_call 91; (with_reducible refine (R1 _ HBa.out).mono ?_); rintro r w6 ⟨rfl, hb⟩; obtain ⟨h, hh⟩ : ∃ h, nq.w.heap.size = h := ⟨_, rfl⟩; have hwh : w.heap.size ≤ h := (by omega); have HXc := Lib.hid (HXa.out.up hb (lt_of_block HXa.out)); rw [hh] at HXc; have hneR : h ≠ w.heap.size := (by omega); replace HHc := Lib.hid (HHa.out.up hb (lt_of_block HHa.out)); replace HBc := Lib.hid (HBa.out.trans (hb.mono HBa.out.size)); clear hb; have e0 := HXc.out.cell 0 (by simp); have e1 := HXc.out.cell 1 (by simp); have e2 := HXc.out.cell 2 (by simp); have e3 := HXc.out.cell 3 (by simp); have p0 := HXc.out.free 0; have p1 := HXc.out.free 1; have p2 := HXc.out.free 2; have p3 := HXc.out.free 3; rw [hh]))
  all_goals first
    | (obtain ⟨h, hh⟩ : ∃ h, w5.heap.size = h := ⟨_, rfl⟩
       have HX6 : Hid (Blk (w5.alloc (.cells #[.int .u8 k, .int .u32 n1, .int .u32 n2, .int .u32 n3] 97)) h 97 [.int .u8 k, .int .u32 n1, .int .u32 n2, .int .u32 n3]) := Lib.hid (by rw [← hh]; exact heap_alloc_new w5 _)
       have HB6 := Lib.hid (HBc.out.alloc HBc.out.size (.cells #[.int .u8 k, .int .u32 n1, .int .u32 n2, .int .u32 n3] 97))
       have HH6 := Lib.hid (HHc.out.up (Below.alloc (Below.refl w5.heap.size w5) (Nat.le_refl _) (.cells #[.int .u8 k, .int .u32 n1, .int .u32 n2, .int .u32 n3] 97)) (lt_of_block HHc.out))
       have hwh : w.heap.size ≤ h := (by have := HBc.out.size; omega)
       have hneR : h ≠ w.heap.size := (by have := lt_of_block HHc.out; omega)
       rw [hh])
    | (have HX6 := Lib.hid (blk4 HXc.out (.int .u8 k) (.int .u32 n1) (.int .u32 n2) (.int .u32 n3))
       have HB6 := Lib.hid (HBc.out.grown (grown4 _ h (.int .u8 k) (.int .u32 n1) (.int .u32 n2) (.int .u32 n3)) HBc.out.size (fun j hj => by injection hj; omega))
       have HH6 := Lib.hid (HHc.out.kept (grown4 _ h (.int .u8 k) (.int .u32 n1) (.int .u32 n2) (.int .u32 n3)) (fun e => by injection e; omega))
       clear HXc e0 e1 e2 e3 p0 p1 p2 p3)
  all_goals (
    have e0 := HX6.out.cell 0 (by simp)
    have e1 := HX6.out.cell 1 (by simp)
    have e2 := HX6.out.cell 2 (by simp)
    have e3 := HX6.out.cell 3 (by simp)
    clear HBc HHc KS R1 R2 R3 HBa HHa HXa
    go_wp2_with fail
    refine (rright_isq1 k n1 n2 n3 _).mono ?_
    rintro r w7 ⟨rfl, hb⟩
    have HB7 := Lib.hid (HB6.out.trans (hb.mono HB6.out.size))
    have HH7 := Lib.hid (HH6.out.up hb (lt_of_block HH6.out))
    have HX7 := Lib.hid (HX6.out.up hb (lt_of_block HX6.out))
    clear hb HB6 HH6 HX6 e0 e1 e2 e3
    rw [hk]
    have d0 := HH7.out.cell 0 (by simp)
    have d1 := HH7.out.cell 1 (by simp)
    have d2 := HH7.out.cell 2 (by simp)
    have d3 := HH7.out.cell 3 (by simp)
    have f0 := HH7.out.free 0
    have f1 := HH7.out.free 1
    have f2 := HH7.out.free 2
    have f3 := HH7.out.free 3
    clear HR HX HL HX7
    go_wp2_with fail
    refine bodyPost_ret (v := .tuple #[.agg #[.int .u8 0, .int .u32 0, .int .u32 0, .int .u32 0], .slice none 0 0, .int .i64 2]) (by simp [results, Tryz.results54, go_sem, d0, d1, d2, d3]) rfl ⟨rfl, ?_⟩
    exact (((HB7.out.setCell (p := ⟨w.heap.size, 0, none⟩) (Nat.le_refl _) _).setCell (p := ⟨w.heap.size, 1, none⟩) (Nat.le_refl _) _).setCell (p := ⟨w.heap.size, 2, none⟩) (Nat.le_refl _) _).setCell (p := ⟨w.heap.size, 3, none⟩) (Nat.le_refl _) _)
end Go.Proofs.YthmpimjmajoimaaGreatDoor
