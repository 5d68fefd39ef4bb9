/-
  The landed device: bytes.Clone; Read.
  The landed device: a page more of a zone: append onto its row; the device behind it.
-/
import Derived.Test.YthmpimjmajoimaaGreatDoorSw09
namespace Go.Proofs.YthmpimjmajoimaaGreatDoor
open Go.RowKit

theorem eq_nil8 (a : Option Addr) (n c : Nat) (w : World) : (binOp .eql 61 (.slice a n c) (.slice none 0 0)).run Tryz.prog w = .ok (.bool a.isNone) w := by
  simp only [binOp]
  simp [run_equal_slice_nil w 61 5 a n c Tryz.underlying61]
theorem RowV.newB {w w' : World} {v : Value} {xs : List Int} (h : RowV w' w.heap.size 5 v (cellsOf8 xs)) : BytN w w' v xs := by
  obtain ⟨A, c, rfl, hc, hr, h0, hm⟩ := h.out
  rw [cells8_len] at hc ⊢
  exact ⟨A, c, rfl, hc, hr.rd, fun _ b o x e => hm b o x e, h0⟩
/-- bytes.Clone: the same bytes, in memory of their own. -/
def ClonIs (xs : List Int) (w : World) (r : Ending) (w' : World) : Prop := ∃ v, r = .returned v ∧ BytN w w' v xs ∧ Below w.heap.size w w'
set_option maxHeartbeats 1000000 in
set_option maxRecDepth 100000 in
theorem lclone_at {w : World} {A : Option Addr} {n c : Nat} {xs : List Int} (hl : xs.length = n) (hr : Rd w w.heap.size A xs) (hA : A = none → c = 0) (hn : n ≤ 1000) : Calls Tryz.prog 87 #[.slice A n c] w (ClonIs xs w) := by
  have hq := eq_nil8
  cases A with
  | none =>
    have h0 : xs = [] := by
      rcases Nat.eq_zero_or_pos xs.length with h0 | h0
      · exact List.eq_nil_of_length_eq_zero h0
      · obtain ⟨b, o', hA', _⟩ := hr h0
        cases hA'
    subst h0
    subst hl
    go_enter Tryz.func87, Tryz.ntmps87
    go_wp2_with fail
    go_ret
    exact ⟨_, rfl, BytN.nil _ _, Below.refl _ _⟩
  | some ad =>
    have HCL : Hid ((cellsOf8 xs).length = n) := Lib.hid (by rw [cells8_len, hl])
    have HRV := Lib.hid hr.rdV
    have HE := Lib.hid (RowV.new w w.heap.size 5 (Nat.le_refl _))
    have HB := Lib.hid (Below.alloc (Below.refl w.heap.size w) (Nat.le_refl _) (.cells #[] 5))
    clear hl hr hA
    go_enter Tryz.func87, Tryz.ntmps87
    go_wp2_with (first
      | (at_builtin; refine appR _ rfl (.tmp 5) (.tmp 6) 61 5 (.int .u8 0) 1 rfl Tryz.underlying61 infoU8 rfl (by decide) w.heap.size 0 n c (.slice (some ⟨w.heap.size, 0, none⟩) 0 0) [] (cellsOf8 xs) (some ad) rfl HE.out rfl rfl HCL.out ?h1 (fun e => by cases e) one8 ?h2 ?h3 ?_; (case h1 => exact HRV.out.up HB.out); (case h2 => omega); (case h3 => exact HB.out.size); intro v2 w2 ho hg; have HO := Lib.hid ho; have HB2 := Lib.hid (HB.out.grown hg HB.out.size (fun k e => (HE.out.own k e).1)); clear ho hg HE HB)
      | fail)
    go_ret
    exact ⟨v2, rfl, RowV.newB (by have := HO.out; rwa [List.nil_append] at this), HB2.out⟩
theorem errV_8 : errV 8 = .iface 31 (.int .i64 8) := if_neg (by decide)
theorem errV_6 : errV 6 = .iface 31 (.int .i64 6) := if_neg (by decide)
theorem errV_5 : errV 5 = .iface 31 (.int .i64 5) := if_neg (by decide)
theorem errV_0 : errV 0 = .nilIface := if_pos rfl
theorem read_not {w w' : World} {v : Value} {e : Int} (hb : Below w.heap.size w w') (hv : errV e = v) : ZRead [] e w (.returned (.tuple #[.slice none 0 0, v])) w' := ⟨_, by rw [hv], BytN.nil _ _, hb⟩
section
variable {F G : Nat → Prop} {w w' : World} {db zb cap : Nat} {f : Int} {col : Nat → Nat} {zs : List Value} {S S' : DevS}
set_option maxHeartbeats 1000000 in
set_option maxRecDepth 100000 in
theorem lread_at (n p : Int) (h : LD F w db zb cap f col zs S) : Calls Tryz.prog 49 #[.pointer (some ⟨db, 0, none⟩), .int .i64 n, .int .i64 p] w (ZRead (S.readB n p) (S.readE n p) w) := by
  have HH := Lib.hid h
  have c4 := h.c4
  have c1 := h.c1
  have hdb := lt_of_block h.dev
  by_cases hg : S.gone = true
  · have HE : Hid (S.readE n p = 7) := Lib.hid (by unfold DevS.readE; rw [if_pos hg])
    have HB := Lib.hid (readB_no HE.out (by decide))
    rw [hg] at c4
    clear h hg c1
    go_enter Tryz.func49, Tryz.ntmps49
    go_wp2_with fail
    refine (lat_at n HH.out).mono ?_
    rintro r w1 ⟨b, o, A, c, fi, rfl, hb, _, _, _, _, _⟩
    have c4' := (hb.cell (p := ⟨db, 4, none⟩) hdb).trans c4
    have HBW := Lib.hid hb
    clear hb c4
    go_wp2_with fail
    go_ret2
    rw [HE.out, HB.out]
    exact read_not HBW.out errV_7
  · have hg2 : S.gone = false := by simpa using hg
    rw [hg2] at c4
    by_cases hi : S.is n = true
    · obtain ⟨i, rfl⟩ := Int.eq_ofNat_of_zero_le (DevS.is_iff.1 hi).1
      have HI := Lib.hid hi
      by_cases hp0 : p < 0
      · have HE : Hid (S.readE (i : Int) p = 1) := Lib.hid (by simp [DevS.readE, hg2, hp0])
        have HB := Lib.hid (readB_no HE.out (by decide))
        clear h hg hg2 hi
        go_enter Tryz.func49, Tryz.ntmps49
        go_wp2_with fail
        refine (lat_at (i : Int) HH.out).mono ?_
        rintro r w1 ⟨b, o, A, c, fi, rfl, hb, _, _, _, _, hx⟩
        obtain ⟨rfl, rfl, rfl, _⟩ := hx HI.out
        rw [HI.out, Int.toNat_natCast]
        clear hb hx
        go_wp2_with fail
        go_ret2
        rw [HE.out, HB.out]
        exact read_not (Below.refl _ _) errV_1
      · by_cases hp1 : (S.P : Int) ≤ p
        · have HE : Hid (S.readE (i : Int) p = 1) := Lib.hid (by simp [DevS.readE, hg2, hp1])
          have HB := Lib.hid (readB_no HE.out (by decide))
          have hp2 : 0 ≤ p := by omega
          generalize S.P = P at *
          clear h hg hg2 hi hp0
          go_enter Tryz.func49, Tryz.ntmps49
          go_wp2_with fail
          refine (lat_at (i : Int) HH.out).mono ?_
          rintro r w1 ⟨b, o, A, c, fi, rfl, hb, _, _, _, _, hx⟩
          obtain ⟨rfl, rfl, rfl, _⟩ := hx HI.out
          rw [HI.out, Int.toNat_natCast]
          clear hb hx
          go_wp2_with fail
          go_ret2
          rw [HE.out, HB.out]
          exact read_not (Below.refl _ _) errV_1
        · obtain ⟨j, rfl⟩ := Int.eq_ofNat_of_zero_le (show 0 ≤ p by omega)
          obtain ⟨v, _, _, k2, ⟨vs, hrow, hown, hvl, hx⟩, _, _, _, _, _⟩ := h.zone i hi
          have hpl := (h.wf.pages _ (DevS.zone_mem hi)).1
          have hp16 := h.wf.p1
          have hpg := (h.wf.pages _ (DevS.zone_mem hi)).2.2
          have hjP : j < S.P := by omega
          obtain ⟨Z, hZ⟩ : ∃ Z, (S.zone (i : Int)).pages = Z := ⟨_, rfl⟩
          have HZ := Lib.hid hZ
          rw [hZ] at hvl hx hpl hpg
          obtain ⟨m, hm⟩ : ∃ m, Z.length = m := ⟨_, rfl⟩
          have HPT : Hid (S.point (i : Int) = m) := Lib.hid (by unfold DevS.point; rw [if_pos hi, hZ, hm])
          rw [hm] at hvl hpl
          by_cases hjm : m ≤ j
          · have HE : Hid (S.readE (i : Int) (j : Int) = 8) := Lib.hid (by
              have h1 : ¬ (S.P : Int) ≤ (j : Int) := hp1
              simp [DevS.readE, hg2, hi, HZ.out, hm]
              omega)
            have HB := Lib.hid (readB_no HE.out (by decide))
            have hq : ¬ (S.P : Int) ≤ (j : Int) := hp1
            generalize S.P = P at *
            clear h hg hg2 hi hrow hx hown hpg hZ hvl k2 hp0
            go_enter Tryz.func49, Tryz.ntmps49
            go_wp2_with fail
            refine (lat_at (i : Int) HH.out).mono ?_
            rintro r w1 ⟨b, o, A, c, fi, rfl, hb, _, _, k2, _, hx⟩
            obtain ⟨rfl, rfl, rfl, _⟩ := hx HI.out
            rw [HI.out, Int.toNat_natCast]
            rw [HPT.out, Int.toNat_natCast] at k2
            clear hb hx
            go_wp2_with fail
            go_ret2
            rw [HE.out, HB.out]
            exact read_not (Below.refl _ _) errV_8
          · have hjm2 : j < m := by omega
            obtain ⟨g, cp, rfl, hO⟩ := hrow.form (by omega)
            have cj := hO.cell j (by omega)
            obtain ⟨A1, c1', e1, hc1, hr1, _, h01⟩ := hx j (by omega) (by omega)
            rw [e1] at cj
            rw [hvl] at k2
            have hgd : Z.getD j [] = Z[j]'(by omega) := by simp [List.getD_eq_getElem?_getD, List.getElem?_eq_getElem (show j < Z.length by omega)]
            have hp33 := hpg _ (List.getElem_mem (show j < Z.length by omega))
            have HEE : Hid (S.readE (i : Int) (j : Int) = if (Z[j]'(by omega)).length = 0 then 6 else 0) := Lib.hid (by
              have h1 : ¬ (S.P : Int) ≤ (j : Int) := hp1
              have h2 : ¬ (m : Int) ≤ (j : Int) := by omega
              have h3 : ¬ S.P ≤ j := by omega
              have h4 : ¬ m ≤ j := by omega
              simp only [DevS.readE, hg2, hi, HZ.out, hm, Int.toNat_natCast, hgd]
              simp [h3, h4]
              intro hneg
              omega)
            have HBB : Hid (S.readE (i : Int) (j : Int) = 0 → S.readB (i : Int) (j : Int) = Z[j]'(by omega)) := Lib.hid (fun he => by
              unfold DevS.readB
              rw [if_pos he, HZ.out, Int.toNat_natCast, hgd])
            have HR1 := Lib.hid hr1
            have H01 := Lib.hid h01
            have hq : ¬ (S.P : Int) ≤ (j : Int) := hp1
            generalize Z[j]'(by omega) = x at *
            by_cases hx0 : x.length = 0
            · have HE : Hid (S.readE (i : Int) (j : Int) = 6) := Lib.hid (by rw [HEE.out, if_pos hx0])
              have HB := Lib.hid (readB_no HE.out (by decide))
              rw [hx0] at cj
              generalize S.P = P at *
              clear h hg hg2 hi hrow hx hown hpg hZ hr1 h01 e1 hgd HEE HBB hp33 hO hvl hp0
              go_enter Tryz.func49, Tryz.ntmps49
              go_wp2_with fail
              refine (lat_at (i : Int) HH.out).mono ?_
              rintro r w1 ⟨b, o, A, c, fi, rfl, hb, _, _, _, _, hx⟩
              obtain ⟨rfl, rfl, rfl, _⟩ := hx HI.out
              rw [HI.out, Int.toNat_natCast]
              clear hb hx
              go_wp2_with fail
              go_ret2
              rw [HE.out, HB.out]
              exact read_not (Below.refl _ _) errV_6
            · have HE : Hid (S.readE (i : Int) (j : Int) = 0) := Lib.hid (by rw [HEE.out, if_neg hx0])
              have HB := Lib.hid (HBB.out HE.out)
              have hx33 : x.length = 33 := by omega
              have HX := Lib.hid hx33
              rw [hx33] at cj
              generalize S.P = P at *
              clear h hg hg2 hi hrow hx hown hpg hZ hr1 h01 e1 hgd HEE HBB hp33 hx0 hx33 hO hvl hp0
              go_enter Tryz.func49, Tryz.ntmps49
              go_wp2_with fail
              refine (lat_at (i : Int) HH.out).mono ?_
              rintro r w1 ⟨b, o, A, c, fi, rfl, hb, _, _, _, _, hx⟩
              obtain ⟨rfl, rfl, rfl, _⟩ := hx HI.out
              rw [HI.out, Int.toNat_natCast]
              clear hb hx
              go_wp2_with fail
              refine (lclone_at HX.out HR1.out H01.out (by omega)).mono ?_
              rintro r w2 ⟨v2, rfl, hv2, hb2⟩
              have HV2 := Lib.hid hv2
              have HB2 := Lib.hid hb2
              clear hv2 hb2
              go_wp2_with fail
              go_ret2
              rw [HE.out, HB.out]
              exact ⟨_, by rw [errV_0]; rfl, HV2.out, HB2.out⟩
    · have HI : Hid (S.is n = false) := Lib.hid (by simpa using hi)
      have HE : Hid (S.readE n p = 1) := Lib.hid (by simp [DevS.readE, hg2, HI.out])
      have HB := Lib.hid (readB_no HE.out (by decide))
      clear h hg hg2 hi
      go_enter Tryz.func49, Tryz.ntmps49
      go_wp2_with fail
      refine (lat_at n HH.out).mono ?_
      rintro r w1 ⟨b, o, A, c, fi, rfl, hb, _, _, _, _, _⟩
      rw [HI.out]
      have c4' := (hb.cell (p := ⟨db, 4, none⟩) hdb).trans c4
      have HBW := Lib.hid hb
      clear hb c4
      go_wp2_with fail
      go_ret2
      rw [HE.out, HB.out]
      exact read_not HBW.out errV_1
end
end Go.Proofs.YthmpimjmajoimaaGreatDoor
namespace Go.Proofs.YthmpimjmajoimaaGreatDoor
open Go.RowKit

theorem wp_appL (w : World) {o : Oper} {a : Act} {K : Act → World → Prop} {Q : Exit → Act → World → Prop} (s x : Operand) (ho : o.op = .call { callee := .builtin .append, args := #[s, x], argTypes := #[60, 60] })
    (n c e : Nat) (v u : Value) (ys : List Value) (hs : a.eval s = v) (hown : RowV w 0 61 v ys) (hn : ys.length = n) (hx : a.eval x = .slice (some ⟨e, 0, none⟩) 1 c) (hu : w.cell? ⟨e, 0, none⟩ = some u) (h1 : u.oneCell' = true) (hlen : n ≤ 1000)
    (h : ∀ g cap w', OwnG w' 0 61 g cap (ys ++ [u]) → w.grownBy w' v.ownBlock → (v.ownBlock = some g ∨ g = w.heap.size) → g < w'.heap.size → K (a.put o.dst (.slice (some ⟨g, 0, none⟩) (n + 1) cap)) w') : o.wp Tryz.prog a w K Q := by
  obtain ⟨i0, hi, hz0, hz1, hz2⟩ := info_parts infoRow
  subst hn
  refine wp_append_lies w s x 60 ho 0 61 i0 (.slice none 0 0) 1 24 Tryz.underlying60 hi hz0 hz1 hz2 rfl (by decide) v ys.length ys hs hown ⟨e, 0, none⟩ 1 c [u] hx rfl ?_ ?_ (by decide) (by unfold maxLen; omega) (by omega) (Nat.zero_le _) w.heap.size rfl ?_
  · intro j y hj
    rcases j with _ | j
    · simp at hj
      subst hj
      simpa [Addr.add] using hu
    · simp at hj
  · intro y hy
    simp at hy
    subst hy
    exact h1
  · intro g cap w' h2 h3 h4 h5
    refine h g cap w' ?_ h3 h4 h5
    unfold OwnG
    rw [List.length_append]
    exact h2
theorem stepL (w : World) {ops : Array Oper} {o : Oper} {a : Act} {K : Act → World → Prop} {Q : Exit → Act → World → Prop} {E : Prop} (hgd : o.guard = none) (s x : Operand) (ho : o.op = .call { callee := .builtin .append, args := #[s, x], argTypes := #[60, 60] })
    (n c e : Nat) (v u : Value) (ys : List Value) (hs : a.eval s = v) (hown : RowV w 0 61 v ys) (hn : ys.length = n) (hx : a.eval x = .slice (some ⟨e, 0, none⟩) 1 c) (hu : w.cell? ⟨e, 0, none⟩ = some u) (h1 : u.oneCell' = true) (hlen : n ≤ 1000)
    (h : ∀ g cap w', OwnG w' 0 61 g cap (ys ++ [u]) → w.grownBy w' v.ownBlock → (v.ownBlock = some g ∨ g = w.heap.size) → g < w'.heap.size → K (a.put o.dst (.slice (some ⟨g, 0, none⟩) (n + 1) cap)) w') : if Region.wanted o (yielded ops a.tmps) = true then Oper.wp Tryz.prog o a w K Q else E := by
  have hw : Region.wanted o (yielded ops a.tmps) = true := by simp [Region.wanted, hgd]
  rw [if_pos hw]
  exact wp_appL w s x ho n c e v u ys hs hown hn hx hu h1 hlen h
theorem listL (w : World) {ops : Array Oper} {rest : List Oper} {o : Oper} {a : Act} {Q : Exit → Act → World → Prop} (hgd : o.guard = none) (s x : Operand) (ho : o.op = .call { callee := .builtin .append, args := #[s, x], argTypes := #[60, 60] })
    (n c e : Nat) (v u : Value) (ys : List Value) (hs : a.eval s = v) (hown : RowV w 0 61 v ys) (hn : ys.length = n) (hx : a.eval x = .slice (some ⟨e, 0, none⟩) 1 c) (hu : w.cell? ⟨e, 0, none⟩ = some u) (h1 : u.oneCell' = true) (hlen : n ≤ 1000)
    (h : ∀ g cap w', OwnG w' 0 61 g cap (ys ++ [u]) → w.grownBy w' v.ownBlock → (v.ownBlock = some g ∨ g = w.heap.size) → g < w'.heap.size → wpList Tryz.prog ops Q rest (a.put o.dst (.slice (some ⟨g, 0, none⟩) (n + 1) cap)) w') : wpList Tryz.prog ops Q (o :: rest) a w :=
  wpList_plain hgd fun _ hK => wp_appL w s x ho n c e v u ys hs hown hn hx hu h1 hlen fun g cap w' h2 h3 h4 h5 => hK _ _ (h g cap w' h2 h3 h4 h5)
theorem BytF.one {F : Nat → Prop} {w : World} {v : Value} {xs : List Int} (h : BytF F w v xs) : v.oneCell' = true := by
  obtain ⟨A, c, rfl, _⟩ := h
  rfl

/-- The coloring behind a page more: the row's block g is the zone's, all other new ones hold bytes. -/
def colOf (col : Nat → Nat) (B g k : Nat) : Nat → Nat := fun j => if j < B then col j else if j = g then k else 0
section
variable {F G : Nat → Prop} {w w' u u' : World} {db zb cap : Nat} {f : Int} {col : Nat → Nat} {zs : List Value} {S S' : DevS}
/-- The pages behind an append. -/
theorem Pg.app {i g gc : Nat} {v x : Value} {vs : List Value} {l : List (List Int)} {b : List Int} (hF : ∀ k, F k → k < w.heap.size) (hdb : F db) (hzb : F zb)
    (_hr : RowV w 0 61 v vs) (ho : ∀ j, v.ownBlock = some j → (F j ∧ j ≠ db ∧ j ≠ zb) ∧ col j = i + 1) (hl : vs.length = l.length) (hxs : ∀ j (h : j < vs.length) (h2 : j < l.length), BytF (fun k => (F k ∧ k ≠ db ∧ k ≠ zb) ∧ col k = 0) w vs[j] l[j])
    (hb : Below w.heap.size w u) (hx : BytF (fun k => w.heap.size ≤ k ∧ k < u.heap.size) u x b) (hO : OwnG u' 0 61 g gc (vs ++ [x])) (hg : u.grownBy u' v.ownBlock) (hgg : v.ownBlock = some g ∨ g = u.heap.size) :
    Kept (fun k => k = zb ∨ (F k ∧ k ≠ db ∧ k ≠ zb ∧ col k = i + 1)) w u' ∧ Pg (fun k => grow F w u' k ∧ k ≠ db ∧ k ≠ zb) (colOf col w.heap.size g (i + 1)) (i + 1) u' (.slice (some ⟨g, 0, none⟩) (vs.length + 1) gc) (l ++ [b]) := by
  have hk : Kept (fun k => k = zb ∨ (F k ∧ k ≠ db ∧ k ≠ zb ∧ col k = i + 1)) w u' := (Kept.of_below hb).grown hg (fun k e => .inl (.inr ⟨(ho k e).1.1, (ho k e).1.2.1, (ho k e).1.2.2, (ho k e).2⟩))
  have hgl := hO.mem.2
  have hgs : (g < w.heap.size ∧ v.ownBlock = some g) ∨ (w.heap.size ≤ g ∧ g = u.heap.size) := by
    rcases hgg with e | e
    · exact .inl ⟨hF _ (ho g e).1.1, e⟩
    · exact .inr ⟨by have := hb.size; omega, e⟩
  have hdbl := hF db hdb
  have hzbl := hF zb hzb
  refine ⟨hk, vs ++ [x], ?_, ?_, by simp [hl], ?_⟩
  · have := hO
    unfold OwnG at this
    unfold RowV
    rw [List.length_append] at this ⊢
    exact this
  · intro j hj
    simp [Value.ownBlock] at hj
    subst hj
    rcases hgs with ⟨h1, h2⟩ | ⟨h1, h2⟩
    · exact ⟨⟨.inl (ho g h2).1.1, (ho g h2).1.2⟩, by simp [colOf, h1, (ho g h2).2]⟩
    · exact ⟨⟨.inr ⟨h1, hgl⟩, by omega, by omega⟩, by simp [colOf, show ¬ g < w.heap.size by omega]⟩
  · intro j h1 h2
    by_cases hj : j < vs.length
    · rw [List.getElem_append_left hj, List.getElem_append_left (by omega)]
      refine ((hxs j hj (by omega)).keep hk (fun k hk2 => ?_)).mono (fun k hk2 => ?_)
      · rintro (e | e)
        · exact hk2.1.2.2 e
        · have := e.2.2.2
          have := hk2.2
          omega
      · exact ⟨⟨.inl hk2.1.1, hk2.1.2⟩, by simp [colOf, hF k hk2.1.1, hk2.2]⟩
    · have hjv : j = vs.length := by simp at h1; omega
      subst hjv
      rw [List.getElem_append_right (by omega)]
      simp only [Nat.sub_self, List.getElem_cons_zero]
      rw [List.getElem_append_right (by omega)]
      simp only [hl, Nat.sub_self, List.getElem_cons_zero]
      have hxu : BytF (fun k => w.heap.size ≤ k ∧ k < u.heap.size) u' x b := hx.keep (G := fun k => v.ownBlock = some k) ((Kept.refl _ u).grown hg (fun k e => .inl e)) (fun k hk2 e => by have := hF k (ho k e).1.1; omega)
      refine hxu.mono (fun k hk2 => ⟨⟨.inr ⟨hk2.1, by have := hg.size; omega⟩, by omega, by omega⟩, ?_⟩)
      have : k ≠ g := by rcases hgs with h | h <;> omega
      simp [colOf, show ¬ k < w.heap.size by omega, this]
/-- The device behind a page more of zone number i. -/
theorem LD.appended {i g gc : Nat} {v x : Value} {vs : List Value} {b : List Int} (h : LD F w db zb cap f col zs S) (hi : S.is (i : Int) = true) (_hz2 : zs[i * 3 + 2]? = some v)
    (hr : RowV w 0 61 v vs) (ho : ∀ j, v.ownBlock = some j → (F j ∧ j ≠ db ∧ j ≠ zb) ∧ col j = i + 1) (hl : vs.length = (S.zone (i : Int)).pages.length) (hxs : ∀ j (h : j < vs.length) (h2 : j < (S.zone (i : Int)).pages.length), BytF (fun k => (F k ∧ k ≠ db ∧ k ≠ zb) ∧ col k = 0) w vs[j] (S.zone (i : Int)).pages[j])
    (hb : Below w.heap.size w u) (hx : BytF (fun k => w.heap.size ≤ k ∧ k < u.heap.size) u x b) (hO : OwnG u' 0 61 g gc (vs ++ [x])) (hg : u.grownBy u' v.ownBlock) (hgg : v.ownBlock = some g ∨ g = u.heap.size)
    (hwf : (S.put (i : Int) { S.zone (i : Int) with pages := (S.zone (i : Int)).pages ++ [b] }).WF) :
    LD (grow F w (u'.setCell ⟨zb, i * 3 + 2, none⟩ (.slice (some ⟨g, 0, none⟩) (vs.length + 1) gc))) (u'.setCell ⟨zb, i * 3 + 2, none⟩ (.slice (some ⟨g, 0, none⟩) (vs.length + 1) gc)) db zb cap f (colOf col w.heap.size g (i + 1)) (zs.set (i * 3 + 2) (.slice (some ⟨g, 0, none⟩) (vs.length + 1) gc)) (S.put (i : Int) { S.zone (i : Int) with pages := (S.zone (i : Int)).pages ++ [b] }) ∧
    Kept F w (u'.setCell ⟨zb, i * 3 + 2, none⟩ (.slice (some ⟨g, 0, none⟩) (vs.length + 1) gc)) := by
  obtain ⟨hk, hp⟩ := Pg.app h.lt h.fd h.fz hr ho hl hxs hb hx hO hg hgg
  obtain ⟨v', k0, k1, k2, hpg, hlz, hlt, z0, z1, z2⟩ := h.zone i hi
  have hk2 := hk.put (g := zb) (.inl (.inl rfl)) (i * 3 + 2) (.slice (some ⟨g, 0, none⟩) (vs.length + 1) gc)
  have hbz : Blk u' zb 119 zs := by
    refine (hg.block zb ?_ ?_).trans (hb.block zb (lt_of_block h.blk)) |>.trans h.blk
    · exact Nat.lt_of_lt_of_le (lt_of_block h.blk) hb.size
    · exact fun e => (ho zb e.symm).1.2.2 rfl
  have hz := set_one (zs := zs) (k := i * 3 + 2) (.slice (some ⟨g, 0, none⟩) (vs.length + 1) gc) hlz
  have hsz : (u'.setCell ⟨zb, i * 3 + 2, none⟩ (.slice (some ⟨g, 0, none⟩) (vs.length + 1) gc)).heap.size = u'.heap.size := by simp [World.setCell]
  refine ⟨h.setZone (col' := colOf col w.heap.size g (i + 1)) (i := i) (z := { S.zone (i : Int) with pages := (S.zone (i : Int)).pages ++ [b] }) (v := .slice (some ⟨g, 0, none⟩) (vs.length + 1) gc) hlt (hbz.put _ _) hk2 hz.1 (fun k _ _ h2 => hz.2.1 k h2) (by rw [hz.2.1 _ (by omega)]; exact z0) (by rw [hz.2.1 _ (by omega)]; exact z1) hz.2.2 (fun k hf => by simp [colOf, h.lt k hf]) ?_ hwf, hk2.mono (fun k _ e => e.elim (fun e => e ▸ h.fz) (fun e => e.1))⟩
  refine (hp.keep (kept_put u' zb (i * 3 + 2) _) (fun j hj _ => hj.2.2)).mono (fun k hk3 _ => ⟨⟨?_, hk3.2⟩, rfl⟩)
  rcases hk3.1 with h1 | h1
  · exact .inl h1
  · exact .inr ⟨h1.1, by omega⟩
end
end Go.Proofs.YthmpimjmajoimaaGreatDoor
