/-
  The landed device: Append's closure.
  The landed device: Append.
-/
import Derived.Test.YthmpimjmajoimaaGreatDoorSw10
import Derived.Test.YthmpimjmajoimaaGreatDoorSw05
namespace Go.Proofs.YthmpimjmajoimaaGreatDoor
open Go.RowKit

section
variable {F G : Nat → Prop} {w w' : World} {db zb cap : Nat} {f : Int} {col : Nat → Nat} {zs : List Value} {S S' : DevS}
/-- What Append's closure does: a page more; and its number at pn. -/
def AppC (F : Nat → Prop) (db pn m : Nat) (S' : DevS) (w w' : World) : Prop := LDev (grow F w w') w' db S' ∧ Kept (fun k => F k ∨ k = pn) w w' ∧ w'.cell? ⟨pn, 0, none⟩ = some (.int .i64 (m : Int))
theorem heap_alloc (w : World) (o : Obj) : (w.alloc o).heap[w.heap.size]? = some o := heap_alloc_new w o
set_option maxHeartbeats 2000000 in
set_option maxRecDepth 100000 in
theorem lappendA_at (i pz pn pb m n c : Nat) (A : Option Addr) (b : List Int) (h : LD F w db zb cap f col zs S) (hi : S.is (i : Int) = true) (hm : (S.zone (i : Int)).pages.length = m) (hwf : (S.put (i : Int) { S.zone (i : Int) with pages := (S.zone (i : Int)).pages ++ [b] }).WF)
    (hp : w.cell? ⟨pz, 0, none⟩ = some (.pointer (some ⟨zb, i * 3, none⟩))) (hn : Blk w pn 3 [.int .i64 0]) (hpb : w.cell? ⟨pb, 0, none⟩ = some (.slice A n c)) (hzn : pz ≠ pn) (hbn : pb ≠ pn) (hpn : ¬ F pn) (hpz : ¬ F pz) (hpbF : ¬ F pb) (hlz : pz < w.heap.size) (hlb : pb < w.heap.size)
    (hA : Rd w w.heap.size A b) (hbl : b.length = n) (hAn : InN b.length (fun k => k ≠ pn) A) (hAc : A = none → c = 0) (hn100 : n ≤ 1000) :
    Calls Tryz.prog 107 #[.pointer (some ⟨pz, 0, none⟩), .pointer (some ⟨pn, 0, none⟩), .pointer (some ⟨pb, 0, none⟩)] w fun r w' => r = .returned (.tuple #[]) ∧ AppC F db pn m (S.put (i : Int) { S.zone (i : Int) with pages := (S.zone (i : Int)).pages ++ [b] }) w w' := by
  obtain ⟨v, _, _, k2, hpg, _, _, _, _, hz2⟩ := h.zone i hi
  obtain ⟨B, cp, rfl⟩ : ∃ B cp, v = .slice B m cp := by
    obtain ⟨B, cp, e⟩ := hpg.form
    exact ⟨B, cp, by rw [e, hm]⟩
  have hm16 : m ≤ 16 := by
    have := (h.wf.pages _ (DevS.zone_mem hi)).1
    have := h.wf.p1
    omega
  have cn : w.cell? ⟨pn, 0, none⟩ = some (.int .i64 0) := hn.cell 0 (by simp)
  have fn := hn.free 0
  have hnz : ¬ pn = zb := fun e => hpn (e ▸ h.fz)
  obtain ⟨w1, hw1⟩ : ∃ w1, w.setCell ⟨pn, 0, none⟩ (.int .i64 (m : Int)) = w1 := ⟨_, rfl⟩
  have hsz : w1.heap.size = w.heap.size := by rw [← hw1]; simp [World.setCell]
  have hk1 : Kept (fun k => k = pn) w w1 := hw1 ▸ kept_put w pn 0 (.int .i64 (m : Int))
  have cn1 : w1.cell? ⟨pn, 0, none⟩ = some (.int .i64 (m : Int)) := hw1 ▸ (hn.put 0 (.int .i64 (m : Int))).cell 0 (by simp)
  have h1 := h.keep hk1 (fun k hk e => hpn (e ▸ hk))
  have k21 := hk1.cell k2 (fun e => hnz e.symm)
  have cz1 := hk1.cell hp (fun e => hzn e)
  have cb1 := hk1.cell hpb (fun e => hbn e)
  have f21 := h1.blk.free (i * 3 + 2)
  have hA1 := hA.keep hk1 hAn
  obtain ⟨vs, hrow, hown, hvl, hxs⟩ := hpg.keep hk1 (fun k hk _ e => hpn (e ▸ hk.1))
  have hvm : vs.length = m := by rw [hvl, hm]
  have hbz := lt_of_block h1.blk
  have HS : Hid (∀ u, Below w1.heap.size w1 u → u.cell? ⟨pz, 0, none⟩ = some (.pointer (some ⟨zb, i * 3, none⟩)) ∧ u.cell? ⟨zb, i * 3 + 2, none⟩ = some (.slice B m cp) ∧ u.cell? ⟨pb, 0, none⟩ = some (.slice A n c)) := Lib.hid (fun u hu =>
    ⟨(hu.cell (p := ⟨pz, 0, none⟩) (show pz < _ by omega)).trans cz1, (hu.cell (p := ⟨zb, i * 3 + 2, none⟩) hbz).trans k21, (hu.cell (p := ⟨pb, 0, none⟩) (show pb < _ by omega)).trans cb1⟩)
  have HROW := Lib.hid hrow
  have HVM := Lib.hid hvm
  have HA1 := Lib.hid (And.intro hA1 (And.intro hbl hAc))
  have HNE : Hid (¬ pz = zb ∧ ¬ pb = zb) := Lib.hid ⟨fun e => hpz (e ▸ h.fz), fun e => hpbF (e ▸ h.fz)⟩
  have HEND : Hid (∀ u u' x g gc, Below w1.heap.size w1 u → BytF (fun k => w1.heap.size ≤ k ∧ k < u.heap.size) u x b → OwnG u' 0 61 g gc (vs ++ [x]) → u.grownBy u' (Value.slice B m cp).ownBlock → ((Value.slice B m cp).ownBlock = some g ∨ g = u.heap.size) →
      AppC F db pn m (S.put (i : Int) { S.zone (i : Int) with pages := (S.zone (i : Int)).pages ++ [b] }) w (u'.setCell ⟨zb, i * 3 + 2, none⟩ (.slice (some ⟨g, 0, none⟩) (m + 1) gc))) := Lib.hid (fun u u' x g gc hb hx hO hg hgg => by
    have := h1.appended hi hz2 hrow hown hvl hxs hb hx hO hg hgg hwf
    rw [hvm] at this
    obtain ⟨hl, hk⟩ := this
    refine ⟨LDev.rounds ⟨zb, cap, f, _, _, hl⟩ (by omega) hk.size, (hk1.mono (fun k _ e => .inr e)).and (hk.mono (fun k _ e => .inl e)), ?_⟩
    exact hk.cell cn1 hpn)
  have HGR : Hid (∀ u u' : World, Below w1.heap.size w1 u → u.grownBy u' (Value.slice B m cp).ownBlock → u'.cell? ⟨pz, 0, none⟩ = some (.pointer (some ⟨zb, i * 3, none⟩)) ∧ u'.cell? ⟨zb, i * 3 + 2, none⟩ = some (.slice B m cp) ∧ u'.cell? ⟨pb, 0, none⟩ = some (.slice A n c) ∧ u'.frozen? ⟨zb, i * 3 + 2, none⟩ = false) := Lib.hid (fun u u' hb hg => by
    have hk : Kept F w1 u' := (Kept.of_below hb).grown hg (fun k e => .inl (hown k e).1.1)
    refine ⟨hk.cell cz1 hpz, ?_, hk.cell cb1 hpbF, ?_⟩
    · have hk2 : Kept (fun k => F k ∧ k ≠ zb) w1 u' := (Kept.of_below hb).grown hg (fun k e => .inl ⟨(hown k e).1.1, (hown k e).1.2.2⟩)
      exact hk2.cell k21 (fun e => e.2 rfl)
    · have hk2 : Kept (fun k => F k ∧ k ≠ zb) w1 u' := (Kept.of_below hb).grown hg (fun k e => .inl ⟨(hown k e).1.1, (hown k e).1.2.2⟩)
      exact (hk2.blk h1.blk (fun e => e.2 rfl)).free (i * 3 + 2))
  have HAD : Hid (Rd w1.drew w1.drew.heap.size A b) := Lib.hid (rd_up hA1 (Below.refl _ _).drew)
  clear h h1 hi hwf hn hpb hpn hpz hpbF hA hAn hAc hbl hpg hk1 hA1 hrow hown hvl hxs hz2 hlz hlb f21 hm cn1
  go_enter Tryz.func107, Tryz.ntmps107
  go_wp2_with fail
  refine wp_region_parts (S := fun u => u.cell? ⟨pz, 0, none⟩ = some (.pointer (some ⟨zb, i * 3, none⟩)) ∧ u.cell? ⟨zb, i * 3 + 2, none⟩ = some (.slice B m cp) ∧ u.cell? ⟨pb, 0, none⟩ = some (.slice A n c)) 9 3 _ (by kernel_rfl) (by kernel_rfl) (by rfl) (by simp only [List.take_succ_cons, List.take_zero]; rfl) ?_ (fun hHeld => ?_)
  · exact HS.out _ (Below.refl _ _).drew
  refine wpAnyH_take (i := 0) (v := ?_) rfl (by kernel_rfl) (by kernel_rfl) (by kernel_rfl) (fun _ _ _ h => h) (Or.inl ⟨by rfl, ?_⟩) (by assumption) ?_
  rotate_left
  · intro u hSu
    try dsimp only at hSu
    go_simp
    try with_reducible rfl
  simp only [Act.put, List.setIfInBounds_toArray]
  refine wpAnyH_take (i := 1) (v := ?_) rfl (by kernel_rfl) (by kernel_rfl) (by kernel_rfl) (fun _ _ _ h => h) (Or.inl ⟨by rfl, ?_⟩) (by assumption) ?_
  rotate_left
  · intro u hSu
    try dsimp only at hSu
    go_simp
    try with_reducible rfl
  simp only [Act.put]
  refine wpAnyH_take (i := 2) (v := ?_) rfl (by kernel_rfl) (by kernel_rfl) (by kernel_rfl) (fun _ _ _ h => h) (Or.inl ⟨by rfl, ?_⟩) (by assumption) ?_
  rotate_left
  · intro u hSu
    try dsimp only at hSu
    go_simp
    try with_reducible rfl
  simp only [Act.put]
  refine wpAnyH_take (i := 3) (v := ?_) rfl (by kernel_rfl) (by kernel_rfl) (by kernel_rfl) (fun _ _ _ h => h) (Or.inl ⟨by rfl, ?_⟩) (by assumption) ?_
  rotate_left
  · intro u hSu
    try dsimp only at hSu
    go_simp
    try with_reducible rfl
  simp only [Act.put]
  refine wpAnyH_take (i := 4) (v := ?_) rfl (by kernel_rfl) (by kernel_rfl) (by kernel_rfl) (fun _ _ _ h => h) (Or.inl ⟨by rfl, ?_⟩) (by assumption) ?_
  rotate_left
  · intro u hSu
    try dsimp only at hSu
    go_simp
    try with_reducible rfl
  simp only [Act.put]
  refine wpAnyH_take (i := 5) (v := ?_) rfl (by kernel_rfl) (by kernel_rfl) (by kernel_rfl) (fun _ _ _ h => h) (Or.inl ⟨by rfl, ?_⟩) (by assumption) ?_
  rotate_left
  · intro u hSu
    try dsimp only at hSu
    go_simp
    try with_reducible rfl
  simp only [Act.put]
  refine wpAnyH_ready (rs := [6]) (by kernel_rfl) (by simp) ?_
  refine (AllReadyH.cons rfl (fun K hK => ?_) AllReadyH.nil)
  go_simp
  refine (lclone_at HA1.out.2.1 HAD.out HA1.out.2.2 hn100).mono ?_
  rintro r w2 ⟨x, rfl, hx, hb2⟩
  obtain ⟨A2, c2, rfl⟩ : ∃ A2 c2, x = .slice A2 n c2 := by
    obtain ⟨A2, c2, e, _⟩ := hx
    exact ⟨A2, c2, by rw [e, HA1.out.2.1]⟩
  have HB2 : Hid (Below w1.heap.size w1 w2) := Lib.hid ((Below.refl w1.heap.size w1).drew.trans hb2)
  have HX2 := Lib.hid hx
  have HB3 : Hid (Below w1.heap.size w1 (w2.alloc (.cells #[.slice A2 n c2] 61))) := Lib.hid (HB2.out.alloc HB2.out.size _)
  have HC3 : Hid ((w2.alloc (.cells #[.slice A2 n c2] 61)).cell? ⟨w2.heap.size, 0, none⟩ = some (.slice A2 n c2)) := Lib.hid (box_cell w2 (.slice A2 n c2) 61)
  have HX3 : Hid (BytF (fun k => w1.heap.size ≤ k ∧ k < (w2.alloc (.cells #[.slice A2 n c2] 61)).heap.size) (w2.alloc (.cells #[.slice A2 n c2] 61)) (.slice A2 n c2) b) := Lib.hid (((show BytF (fun k => w1.heap.size ≤ k ∧ k < w2.heap.size) w2 (.slice A2 n c2) b from hx).up (Below.alloc (Below.refl _ _) (Nat.le_refl _) _)).mono (fun k hk => ⟨hk.1, by rw [World.size_alloc]; omega⟩))
  have HR3 : Hid (RowV (w2.alloc (.cells #[.slice A2 n c2] 61)) 0 61 (.slice B m cp) vs) := Lib.hid (HROW.out.rise HB3.out)
  clear hx hb2
  refine hK.out _ _ ?_ (fun hHeld => ?_)
  · exact HS.out _ HB2.out
  clear hK K
  try simp only [Act.put, List.setIfInBounds_toArray, List.set_cons_zero, List.set_cons_succ]
  refine wpAnyH_ready (rs := [7]) (by kernel_rfl) (by simp) ?_
  refine (AllReadyH.cons rfl (fun K hK => ?_) AllReadyH.nil)
  go_simp
  refine hK.out _ _ ?_ (fun hHeld => ?_)
  · exact HS.out _ HB3.out
  clear hK K
  try simp only [Act.put, List.setIfInBounds_toArray, List.set_cons_zero, List.set_cons_succ]
  refine wpAnyH_ready (rs := [8]) (by kernel_rfl) (by simp) ?_
  refine (AllReadyH.cons rfl (fun K hK => ?_) AllReadyH.nil)
  (refine stepL (w2.alloc (.cells #[.slice A2 n c2] 61)) (by rfl) (.tmp 12) (.tmp 15) (by rfl) m 1 w2.heap.size (.slice B m cp) (.slice A2 n c2) vs (by rfl) HR3.out HVM.out (by rfl) HC3.out HX3.out.one (by omega) ?_; intro g gc w4 hO hg hgg hgl; have HQ := Lib.hid (HGR.out _ _ HB3.out hg); have HE := Lib.hid (HEND.out _ _ _ _ _ HB3.out HX3.out hO hg hgg); have g2 := HQ.out.2.1; have g3 := HQ.out.2.2.2; have g0 := HQ.out.1; clear hO hg hgg)
  refine hK.out _ _ ?_ (fun hHeld => ?_)
  · exact ⟨HQ.out.1, HQ.out.2.1, HQ.out.2.2.1⟩
  clear hK K
  try simp only [Act.put, List.setIfInBounds_toArray]
  refine wpAnyH_done (by kernel_rfl) ?_ _
  show wpAny _ _ _ _ 3 _ _ _
  refine wpAny_take (i := 9) (v := ?_) rfl (by kernel_rfl) (by kernel_rfl) (by kernel_rfl) (fun _ _ _ h => h) (Or.inl ⟨by rfl, ?_⟩) ?_
  rotate_left
  · intro u
    go_simp
    try with_reducible rfl
  simp only [Act.put]
  refine wpAny_take (i := 10) (v := ?_) rfl (by kernel_rfl) (by kernel_rfl) (by kernel_rfl) (fun _ _ _ h => h) (Or.inl ⟨by rfl, ?_⟩) ?_
  rotate_left
  · intro u
    go_simp
    try with_reducible rfl
  simp only [Act.put]
  refine wpAny_ready (rs := [11]) (by kernel_rfl) (by simp) ?_
  refine AllReady.cons rfl (fun K hK => ?_) AllReady.nil
  go_simp
  refine hK _ _ ?_
  clear hK K
  refine wpAny_done (by kernel_rfl) ?_ _
  go_wp2_with fail
  go_end0
  exact ⟨rfl, HE.out⟩
end
end Go.Proofs.YthmpimjmajoimaaGreatDoor
namespace Go.Proofs.YthmpimjmajoimaaGreatDoor
open Go.RowKit

section
variable {F G : Nat → Prop} {w w' : World} {db zb cap : Nat} {f : Int} {col : Nat → Nat} {zs : List Value} {S S' : DevS}
theorem spend_app {w2 w4 : World} {r : Ending} {T : DevS} {pn m : Nat} (h : LD F w db zb cap f col zs S) (hb : Below w.heap.size w w2) (hpn : w.heap.size ≤ pn) (_hpl : pn < w2.heap.size) (hc : w2.cell? ⟨pn, 0, none⟩ = some (.int .i64 0)) (hs : SpendIs F db zb cap col zs S (AppC F db pn m T) w2 r w4) (hT : S.mayE 0 = 0 → S' = T) (hN : S.mayE 0 ≠ 0 → S' = S.mayS 0) :
    r = .returned (errV (S.mayE 0)) ∧ LDev (grow F w w4) w4 db S' ∧ Kept F w w4 ∧ w4.cell? ⟨pn, 0, none⟩ = some (.int .i64 (if S.mayE 0 = 0 then (m : Int) else 0)) := by
  have hk0 : Kept F w w2 := Kept.of_below hb
  rcases hs with ⟨he, rfl, w3, f', h3, hk3, h4, hk4, hc4⟩ | ⟨he, rfl, f', h3, hk3⟩
  · have hk3' : Kept F w2 w3 := hk3.mono (fun k _ e => e ▸ h.fd)
    rw [he, hT he]
    refine ⟨rfl, h4.rounds (Nat.le_trans hb.size hk3.size) hk4.size, (hk0.and hk3').trans (hk4.mono (fun k _ e => ?_)), by simpa using hc4⟩
    rcases e with e | e
    · exact .inl e
    · exact .inr ⟨by omega, by have := hk3.size; omega⟩
  · rw [he, hN (by rw [he]; decide)]
    refine ⟨rfl, ⟨zb, cap, f', col, zs, h3.gro⟩, hk0.and (hk3.mono (fun k _ e => e ▸ h.fd)), ?_⟩
    have := hk3.cell hc (fun e => by have e : pn = db := e; have := h.lt _ h.fd; omega)
    simpa using this
theorem appE_of {n : Int} (hi : S.is n = false) (b : List Int) : S.appE n b = 1 := by simp [DevS.appE, hi]
theorem app_nothing {n e : Int} {b : List Int} (hE : S.appE n b = e) (hm : S.mayE e ≠ 0) (hs : S.mayS e = S) : S.app n b = S ∧ S.appN n b = 0 := by
  obtain ⟨h1, h2⟩ := app_no hE hm
  exact ⟨h1.trans hs, h2⟩
set_option maxHeartbeats 2000000 in
set_option maxRecDepth 100000 in
theorem lappend_at (n : Int) (A : Option Addr) (m c : Nat) (b : List Int) (h : LD F w db zb cap f col zs S) (hd : S.done ≤ 1000000) (hbl : b.length = m) (hA : Rd w w.heap.size A b) (hAF : InN b.length (fun k => ¬ F k) A) (hAc : A = none → c = 0) (hby : Byt b) (hm100 : m ≤ 100) :
    Calls Tryz.prog 77 #[.pointer (some ⟨db, 0, none⟩), .int .i64 n, .slice A m c] w (ZDone LDev F db (S.app n b) (.tuple #[.int .i64 (S.appN n b), errV (S.mayE (S.appE n b))]) w) := by
  obtain ⟨wb, hwb⟩ : ∃ wb, w.alloc (.cells #[.slice A m c] 61) = wb := ⟨_, rfl⟩
  have HB0 : Hid (Below w.heap.size w wb) := Lib.hid (hwb ▸ Below.alloc (Below.refl w.heap.size w) (Nat.le_refl _) _)
  have cb : wb.cell? ⟨w.heap.size, 0, none⟩ = some (.slice A m c) := hwb ▸ box_cell w (.slice A m c) 61
  have hsb : wb.heap.size = w.heap.size + 1 := by rw [← hwb, World.size_alloc]
  have HSB := Lib.hid hsb
  have H0 := Lib.hid h
  have HH := Lib.hid (h.up HB0.out)
  have c4 := HH.out.c4
  have hdb := lt_of_block HH.out.dev
  by_cases hg : S.gone = true
  · have HE := Lib.hid (mayE_gone hg (S.appE n b))
    have HS := Lib.hid (app_nothing (n := n) (b := b) rfl (by rw [HE.out.1]; decide) HE.out.2)
    rw [hg] at c4
    clear h hg hA hAF hAc hby hbl hsb
    go_enter Tryz.func77, Tryz.ntmps77
    go_wp2_with fail
    refine (lat_at n HH.out).mono ?_
    rintro r w1 ⟨b', o, A', c', fi, rfl, hb, _, _, _, _, _⟩
    have c4' := (hb.cell (p := ⟨db, 4, none⟩) hdb).trans c4
    have hdb1 : db < w1.heap.size := Nat.lt_of_lt_of_le hdb hb.size
    have hne : ¬ w1.heap.size = db := by omega
    have HB := Lib.hid (box_below (below_all HB0.out hb) (.pointer (some ⟨b', o, none⟩)) 127)
    clear hb c4 hdb
    go_wp2_with fail
    go_ret2
    exact ⟨by rw [HE.out.1, HS.out.2, errV_7]; rfl, call_not H0.out HB.out HS.out.1⟩
  · have hg2 : S.gone = false := by simpa using hg
    rw [hg2] at c4
    have HG := Lib.hid hg2
    by_cases hi : S.is n = true
    · obtain ⟨i, rfl⟩ := Int.eq_ofNat_of_zero_le (DevS.is_iff.1 hi).1
      have HI := Lib.hid hi
      by_cases h33 : m = 33
      · by_cases hs : S.state (i : Int) = 2
        · have HQ := Lib.hid hs
          have HR : Hid (S.appE (i : Int) b = 5) := Lib.hid (by simp [DevS.appE, hi, hs, hbl, h33])
          have HE := Lib.hid (mayE_err (e := 5) hg2 (by decide))
          have HS := Lib.hid (app_nothing HR.out (by rw [HE.out.1]; decide) HE.out.2)
          subst h33
          have hne : ¬ wb.heap.size = db := by omega
          have hlw : w.heap.size < wb.heap.size := by omega
          clear h hg hg2 hi hs hA hAF hAc hby hbl hsb
          go_enter Tryz.func77, Tryz.ntmps77
          go_wp2_with fail
          refine (lat_at (i : Int) HH.out).mono ?_
          rintro r w1 ⟨b', o, A', c', fi, rfl, hb, _, _, _, _, hx⟩
          obtain ⟨rfl, rfl, rfl, _⟩ := hx HI.out
          rw [HI.out, Int.toNat_natCast]
          have HB := Lib.hid (box_below (Below.refl w1.heap.size w1) (.pointer (some ⟨b', i * 3, none⟩)) 127)
          have cb' := (HB.out.cell (p := ⟨w.heap.size, 0, none⟩) hlw).trans cb
          clear hb hx
          go_wp2_with fail
          refine (lstate_at (i : Int) (HH.out.up HB.out)).mono ?_
          rintro r w2 ⟨rfl, hb2⟩
          have HB2 := Lib.hid (below_all HB0.out (below_all HB.out hb2))
          clear hb2
          rw [HQ.out]
          go_wp2_with fail
          go_ret2
          exact ⟨by rw [HR.out, HE.out.1, HS.out.2, errV_5]; rfl, call_not H0.out HB2.out HS.out.1⟩
        · have HR : Hid (S.appE (i : Int) b = 0) := Lib.hid (by simp [DevS.appE, hi, hs, hbl, h33])
          have HT : Hid (S.mayE 0 = 0 → S.app (i : Int) b = (S.mayS 0).put (i : Int) { (S.mayS 0).zone (i : Int) with pages := ((S.mayS 0).zone (i : Int)).pages ++ [b] }) := Lib.hid (fun he => by rw [(app_yes HR.out he).1, zone_may])
          have HN : Hid (S.mayE 0 ≠ 0 → S.app (i : Int) b = S.mayS 0) := Lib.hid (fun he => (app_no HR.out he).1)
          obtain ⟨k, hk⟩ : ∃ k, (S.zone (i : Int)).pages.length = k := ⟨_, rfl⟩
          have HK := Lib.hid hk
          have HAN : Hid (S.appN (i : Int) b = if S.mayE 0 = 0 then (k : Int) else 0) := Lib.hid (by
            by_cases he : S.mayE 0 = 0
            · rw [if_pos he, (app_yes HR.out he).2, hk]
            · rw [if_neg he, (app_no HR.out he).2])
          have HWF : Hid (S.mayE 0 = 0 → ((S.mayS 0).put (i : Int) { (S.mayS 0).zone (i : Int) with pages := ((S.mayS 0).zone (i : Int)).pages ++ [b] }).WF) := Lib.hid (fun he => by rw [← HT.out he]; exact DevS.app_wf h.wf _ hby)
          obtain ⟨st, hst⟩ : ∃ st, S.state (i : Int) = st := ⟨_, rfl⟩
          have HQ := Lib.hid hst
          have qs : (st == 2) = false := by rw [← hst]; simpa using hs
          have hne : ¬ wb.heap.size = db := by omega
          have hlw : w.heap.size < wb.heap.size := by omega
          have HAR := Lib.hid (And.intro hA (And.intro hAF (And.intro hAc hbl)))
          have HDB : Hid (db < w.heap.size) := Lib.hid (H0.out.lt _ H0.out.fd)
          subst h33
          clear h hg hg2 hi hs hst hA hAF hAc hby hbl hsb hk
          go_enter Tryz.func77, Tryz.ntmps77
          go_wp2_with fail
          refine (lat_at (i : Int) HH.out).mono ?_
          rintro r w1 ⟨b', o, A', c', fi, rfl, hb, _, _, _, _, hx⟩
          obtain ⟨rfl, rfl, rfl, _⟩ := hx HI.out
          rw [HI.out, Int.toNat_natCast]
          have HB := Lib.hid (box_below (Below.refl w1.heap.size w1) (.pointer (some ⟨b', i * 3, none⟩)) 127)
          have HC := Lib.hid (box_cell w1 (.pointer (some ⟨b', i * 3, none⟩)) 127)
          have HL : Hid (w1.heap.size < (w1.alloc (.cells #[.pointer (some ⟨b', i * 3, none⟩)] 127)).heap.size) := Lib.hid (by rw [World.size_alloc]; omega)
          have cb' := (HB.out.cell (p := ⟨w.heap.size, 0, none⟩) hlw).trans cb
          have HCB := Lib.hid cb'
          have HLB : Hid (w.heap.size < (w1.alloc (.cells #[.pointer (some ⟨b', i * 3, none⟩)] 127)).heap.size) := Lib.hid (by rw [World.size_alloc]; omega)
          clear hb hx
          go_wp2_with fail
          refine (lstate_at (i : Int) (HH.out.up HB.out)).mono ?_
          rintro r w2 ⟨rfl, hb2⟩
          have HB2 := Lib.hid (below_all HB0.out (below_all HB.out hb2))
          have HC2 := Lib.hid ((hb2.cell (p := ⟨w1.heap.size, 0, none⟩) HL.out).trans HC.out)
          have HCB2 := Lib.hid ((hb2.cell (p := ⟨w.heap.size, 0, none⟩) HLB.out).trans HCB.out)
          have HL2 : Hid (w1.heap.size < w2.heap.size ∧ w.heap.size < w2.heap.size) := Lib.hid ⟨Nat.lt_of_lt_of_le HL.out hb2.size, Nat.lt_of_lt_of_le HLB.out hb2.size⟩
          clear hb2 cb' HB HC HL
          rw [HQ.out]
          have HB3 := Lib.hid (HB2.out.alloc HB2.out.size (.cells #[.int .i64 0] 3))
          have HU : Hid (Below w2.heap.size w2 (w2.alloc (.cells #[.int .i64 0] 3))) := Lib.hid (Below.alloc (Below.refl _ _) (Nat.le_refl _) _)
          have HC3 := Lib.hid ((HU.out.cell (p := ⟨w1.heap.size, 0, none⟩) HL2.out.1).trans HC2.out)
          have HCB3 := Lib.hid ((HU.out.cell (p := ⟨w.heap.size, 0, none⟩) HL2.out.2).trans HCB2.out)
          have HN3 : Hid (Blk (w2.alloc (.cells #[.int .i64 0] 3)) w2.heap.size 3 [.int .i64 0]) := Lib.hid (heap_alloc_new w2 _)
          have HSZ : Hid ((w2.alloc (.cells #[.int .i64 0] 3)).heap.size = w2.heap.size + 1) := Lib.hid (World.size_alloc _ _)
          go_wp2_with fail
          refine (lspend_at 107 #[.pointer (some ⟨w1.heap.size, 0, none⟩), .pointer (some ⟨w2.heap.size, 0, none⟩), .pointer (some ⟨w.heap.size, 0, none⟩)] (AppC F db w2.heap.size k ((S.mayS 0).put (i : Int) { (S.mayS 0).zone (i : Int) with pages := ((S.mayS 0).zone (i : Int)).pages ++ [b] })) (H0.out.up HB3.out) hd HG.out (enter_fn (fn := Tryz.f107) (by kernel_rfl) (by kernel_rfl) (by kernel_rfl) _) (fun he w3 f' h3 hk3 => ?_)).mono ?_
          · have hnd : ∀ g, w.heap.size ≤ g → ¬ g = db := fun g hg e => by have := HDB.out; omega
            have hs1 := HSB.out
            have hl2 := HL2.out
            have hsz := HSZ.out
            have hks := hk3.size
            refine lappendA_at i w1.heap.size w2.heap.size w.heap.size k 33 c A b h3 (by rw [is_may]; exact HI.out) (by rw [zone_may]; exact HK.out) (HWF.out he) (hk3.cell HC3.out (hnd _ (show w.heap.size ≤ w1.heap.size by omega))) (hk3.blk HN3.out (hnd _ (show w.heap.size ≤ w2.heap.size by omega))) (hk3.cell HCB3.out (hnd _ (Nat.le_refl _))) (by omega) (by omega)
              (H0.out.not_new (by omega)) (H0.out.not_new (by omega)) (H0.out.not_new (Nat.le_refl _)) (by omega) (by omega) ?_ HAR.out.2.2.2 ?_ HAR.out.2.2.1 (by omega)
            · exact ((rd_up HAR.out.1 HB3.out).keep hk3 (fun hp b o x e => fun e2 => HAR.out.2.1 hp b o x e (e2 ▸ H0.out.fd)))
            · intro hp b o x e
              obtain ⟨b2, o2, e2, hlt, _⟩ := HAR.out.1 hp
              rw [e] at e2
              have e2 := Option.some.inj e2
              injection e2 with e2
              omega
          rintro r w4 hs
          obtain ⟨rfl, h1, h2, h3⟩ := spend_app H0.out HB3.out (by have := HL2.out.2; omega) (by have := HSZ.out; omega) (HN3.out.cell 0 (by simp)) hs HT.out HN.out
          have H1 := Lib.hid h1
          have H2 := Lib.hid h2
          clear hs h1 h2
          rw [← HAN.out] at h3
          go_wp2_with fail
          go_ret2
          exact ⟨by rw [HR.out]; rfl, H1.out, H2.out⟩
      · have HR : Hid (S.appE (i : Int) b = 1) := Lib.hid (by simp [DevS.appE, hbl, h33])
        have HE := Lib.hid (mayE_err (e := 1) hg2 (by decide))
        have HS := Lib.hid (app_nothing HR.out (by rw [HE.out.1]; decide) HE.out.2)
        have q33 : ((m : Int) != 33) = true := by simp; omega
        have hne : ¬ wb.heap.size = db := by omega
        have hlw : w.heap.size < wb.heap.size := by omega
        clear h hg hg2 hi hA hAF hAc hby hbl hsb
        go_enter Tryz.func77, Tryz.ntmps77
        go_wp2_with fail
        refine (lat_at (i : Int) HH.out).mono ?_
        rintro r w1 ⟨b', o, A', c', fi, rfl, hb, _, _, _, _, hx⟩
        obtain ⟨rfl, rfl, rfl, _⟩ := hx HI.out
        rw [HI.out, Int.toNat_natCast]
        have HB := Lib.hid (box_below (Below.refl w1.heap.size w1) (.pointer (some ⟨b', i * 3, none⟩)) 127)
        have cb' := (HB.out.cell (p := ⟨w.heap.size, 0, none⟩) hlw).trans cb
        have HB2 := Lib.hid (below_all HB0.out HB.out)
        clear hb hx
        go_wp2_with fail
        go_ret2
        exact ⟨by rw [HR.out, HE.out.1, HS.out.2, errV_1]; rfl, call_not H0.out HB2.out HS.out.1⟩
    · have HI : Hid (S.is n = false) := Lib.hid (by simpa using hi)
      have HR := Lib.hid (appE_of HI.out b)
      have HE := Lib.hid (mayE_err (e := 1) hg2 (by decide))
      have HS := Lib.hid (app_nothing HR.out (by rw [HE.out.1]; decide) HE.out.2)
      clear h hg hg2 hi hA hAF hAc hby hbl hsb
      go_enter Tryz.func77, Tryz.ntmps77
      go_wp2_with fail
      refine (lat_at n HH.out).mono ?_
      rintro r w1 ⟨b', o, A', c', fi, rfl, hb, _, _, _, _, _⟩
      rw [HI.out]
      have c4' := (hb.cell (p := ⟨db, 4, none⟩) hdb).trans c4
      have hdb1 : db < w1.heap.size := Nat.lt_of_lt_of_le hdb hb.size
      have hne : ¬ w1.heap.size = db := by omega
      have HB := Lib.hid (box_below (below_all HB0.out hb) (.pointer (some ⟨b', o, none⟩)) 127)
      clear hb c4 hdb
      go_wp2_with fail
      go_ret2
      exact ⟨by rw [HR.out, HE.out.1, HS.out.2, errV_1]; rfl, call_not H0.out HB.out HS.out.1⟩
end
end Go.Proofs.YthmpimjmajoimaaGreatDoor
