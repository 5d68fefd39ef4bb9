/-
  The landed slots' small functions: first, Where, fits, of, newer; a page that is read.
  The landed slots' written: the pages of a zone, one after the other, by a range over a function that may be left.
-/
import Derived.Test.YthmpimjmajoimaaGreatDoorSw24
import Derived.Test.YthmpimjmajoimaaGreatDoorSw25
import Derived.Test.YthmpimjmajoimaaGreatDoorSw26
import Derived.Test.YthmpimjmajoimaaGreatDoorSw30
import Derived.OwnWalkIn
import Derived.TacticsInMore
namespace Go.Proofs.YthmpimjmajoimaaGreatDoor
open Go.RowKit

section
variable (Z : ZBas) {F : Nat → Prop} {w : World} {db : Nat} {S : DevS}
theorem slfirst_at (h : Z.D F w db S) : Calls Tryz.prog 52 #[.pointer (some ⟨db, 0, none⟩)] w (IntB ((S.zones.length : Int) - 2) w) := by
  have hz := (Z.wf h).z1
  have HH := Lib.hid h
  obtain ⟨n, hn⟩ : ∃ n, S.zones.length = n := ⟨_, rfl⟩
  have HN := Lib.hid hn
  rw [hn] at hz ⊢
  have hw1 : IntKind.i64.wrap ((n : Int) - 2) = (n : Int) - 2 := IntWalk.i64_in _ (by omega)
  clear h hn
  go_enter Tryz.func52, Tryz.ntmps52
  go_wp2_with fail
  refine (Z.zones HH.out).mono ?_
  rintro r w1 ⟨rfl, hb⟩
  have HB := Lib.hid hb
  rw [HN.out]
  clear hb
  go_wp2_with fail
  go_ret
  exact ⟨rfl, HB.out⟩
theorem slwhere_at (nu : Int) (h : Z.D F w db S) (n0 : 0 ≤ nu) (_n1 : nu ≤ 4294967295) : Calls Tryz.prog 23 #[.pointer (some ⟨db, 0, none⟩), .int .u32 nu] w (IntB (whereN S.zones.length nu) w) := by
  have hz := (Z.wf h).z1
  have HH := Lib.hid h
  obtain ⟨n, hn⟩ : ∃ n, S.zones.length = n := ⟨_, rfl⟩
  have HN := Lib.hid hn
  rw [hn] at hz ⊢
  have hm : nu.tmod 2 = nu % 2 := Int.tmod_eq_emod_of_nonneg n0
  have hw1 : IntKind.i64.wrap (nu % 2) = nu % 2 := IntWalk.i64_in _ (by omega)
  have hw2 : IntKind.i64.wrap ((n : Int) - 2 + nu % 2) = (n : Int) - 2 + nu % 2 := IntWalk.i64_in _ (by omega)
  clear h hn
  go_enter Tryz.func23, Tryz.ntmps23
  go_wp2_with fail
  refine (slfirst_at Z HH.out).mono ?_
  rintro r w1 ⟨rfl, hb⟩
  have HB := Lib.hid hb
  rw [HN.out]
  clear hb
  go_wp2_with fail
  go_ret
  exact ⟨ret_int (by unfold whereN; omega), HB.out⟩
set_option maxHeartbeats 1000000 in
theorem slfits_at (z p b : Int) (h : Z.D F w db S) : Calls Tryz.prog 37 #[.pointer (some ⟨db, 0, none⟩), .agg #[.int .i64 z, .int .i64 p, .int .i64 b]] w (BoolB (decide (z = (S.zones.length : Int)) && decide (p = (S.P : Int))) w) := by
  have HH := Lib.hid h
  obtain ⟨n, hn⟩ : ∃ n, S.zones.length = n := ⟨_, rfl⟩
  obtain ⟨P, hP⟩ : ∃ P, S.P = P := ⟨_, rfl⟩
  rw [hn, hP]
  have HK : Hid (KeptK w 37 [.int .i64 z, .int .i64 p, .int .i64 b] (w.alloc (.cells #[.int .i64 z, .int .i64 p, .int .i64 b] 37)).drew) := Lib.hid ((KeptK.new w 37 [.int .i64 z, .int .i64 p, .int .i64 b]).up (Below.refl _ _).drew)
  have HN := Lib.hid hn
  have HP := Lib.hid hP
  clear h hn hP
  by_cases e : z = (n : Int)
  · have q : (z == (n : Int)) = true := by simpa using e
    have HE := Lib.hid e
    clear e
    go_enter Tryz.func37, Tryz.ntmps37
    go_wp2_with fail
    refine wp_region_in (KeptK w 37 [.int .i64 z, .int .i64 p, .int .i64 b]) HK.out (by kernel_rfl) (by kernel_rfl) (fun ne => ?_)
    have c0 := fun q : In (KeptK w 37 [.int .i64 z, .int .i64 p, .int .i64 b]) => q.ok.2.cell 0 (by simp)
    have c1 := fun q : In (KeptK w 37 [.int .i64 z, .int .i64 p, .int .i64 b]) => q.ok.2.cell 1 (by simp)
    have zD := fun q : In (KeptK w 37 [.int .i64 z, .int .i64 p, .int .i64 b]) => Z.zones (Z.up HH.out q.ok.1)
    have pD := fun q : In (KeptK w 37 [.int .i64 z, .int .i64 p, .int .i64 b]) => Z.pages (Z.up HH.out q.ok.1)
    rw [HN.out] at zD
    rw [HP.out] at pD
    repeat (go_big_quiet_step (first
      | (go_at_call 35; with_reducible exact In.more KeptK.up (zD _))
      | (go_at_call 74; with_reducible exact In.more KeptK.up (pD _))))
    refine wpQuiet_nil ?_
    intro nq
    have HB := Lib.hid nq.ok.1
    clear c0 c1 zD pD
    go_wp2_with fail
    go_ret
    exact ⟨ret_bool (by rw [HE.out]; by_cases h : p = (P : Int) <;> simp [h]), HB.out⟩
  · have q : (z == (n : Int)) = false := by simpa using e
    have HE := Lib.hid e
    clear e
    go_enter Tryz.func37, Tryz.ntmps37
    go_wp2_with fail
    refine wp_region_in (KeptK w 37 [.int .i64 z, .int .i64 p, .int .i64 b]) HK.out (by kernel_rfl) (by kernel_rfl) (fun ne => ?_)
    have c0 := fun q : In (KeptK w 37 [.int .i64 z, .int .i64 p, .int .i64 b]) => q.ok.2.cell 0 (by simp)
    have zD := fun q : In (KeptK w 37 [.int .i64 z, .int .i64 p, .int .i64 b]) => Z.zones (Z.up HH.out q.ok.1)
    rw [HN.out] at zD
    repeat (go_big_quiet_step (first
      | (go_at_call 35; with_reducible exact In.more KeptK.up (zD _))))
    refine wpQuiet_nil ?_
    intro nq
    have HB := Lib.hid nq.ok.1
    clear c0 zD
    go_wp2_with fail
    go_ret
    exact ⟨ret_bool (by simp [HE.out]), HB.out⟩
end
/-- The head that a checkpoint's page has. -/
theorem slof_at (se nu i : Int) (w : World) (h0 : 0 ≤ i) (h1 : i ≤ 1000) : Calls Tryz.prog 90 #[.int .u32 se, .int .u32 nu, .int .i64 i] w (fun r w' => r = .returned (hV 5 se i nu) ∧ Below w.heap.size w w') := by
  have hw1 : IntKind.u32.wrap i = i := IntWalk.u32_in _ (by omega)
  go_enter Tryz.func90, Tryz.ntmps90
  go_wp2_with fail
  refine bodyPost_ret (v := hV 5 se i nu) (by simp [results, Tryz.results90, go_sem]) rfl ?_
  exact ⟨rfl, (Below.refl _ w).alloc (Nat.le_refl _) _⟩
/-- The newer one of two. -/
def newerC (a b : ChkS) : Bool := decide (a.nu = (b.nu + 1) % 4294967296) || (decide (b.nu ≠ (a.nu + 1) % 4294967296) && decide (b.nu < a.nu))
set_option maxHeartbeats 1000000 in
theorem slnewer_at (a b : ChkS) (va vb : Value) (hva : ∃ A n c, va = .slice A n c) (hvb : ∃ A n c, vb = .slice A n c) (w : World) :
    Calls Tryz.prog 58 #[ckV a va, ckV b vb] w (fun r w' => r = .returned (if newerC a b = true then ckV a va else ckV b vb) ∧ Below w.heap.size w w') := by
  obtain ⟨A, n, c, rfl⟩ := hva
  obtain ⟨A2, n2, c2, rfl⟩ := hvb
  obtain ⟨R, hR⟩ : ∃ R, (if newerC a b = true then ckV a (.slice A n c) else ckV b (.slice A2 n2 c2)) = R := ⟨_, rfl⟩
  rw [hR]
  obtain ⟨na, sa, qa, za, pa, ba, da⟩ := a
  obtain ⟨nb, sb, qb, zb, pb, bb, db⟩ := b
  have HN : Hid (newerC ⟨na, sa, qa, za, pa, ba, da⟩ ⟨nb, sb, qb, zb, pb, bb, db⟩ = (decide (na = (nb + 1) % 4294967296) || (decide (nb ≠ (na + 1) % 4294967296) && decide (nb < na)))) := Lib.hid rfl
  have HR := Lib.hid hR
  have hw1 : IntKind.u32.wrap (nb + 1) = (nb + 1) % 4294967296 := by simp [IntKind.wrap, IntKind.signed, IntKind.bits]
  have hw2 : IntKind.u32.wrap (na + 1) = (na + 1) % 4294967296 := by simp [IntKind.wrap, IntKind.signed, IntKind.bits]
  obtain ⟨y1, hy1⟩ : ∃ y, (nb + 1) % 4294967296 = y := ⟨_, rfl⟩
  obtain ⟨y2, hy2⟩ : ∃ y, (na + 1) % 4294967296 = y := ⟨_, rfl⟩
  rw [hy1] at HN hw1
  rw [hy2] at HN hw2
  show Calls Tryz.prog 58 #[.agg #[.int .u32 na, .int .u32 sa, .int .u32 qa, .int .i64 za, .int .i64 pa, .int .i64 ba, .slice A n c], .agg #[.int .u32 nb, .int .u32 sb, .int .u32 qb, .int .i64 zb, .int .i64 pb, .int .i64 bb, .slice A2 n2 c2]] w _
  clear hy1 hy2 hR
  by_cases q1 : na = y1
  · have k1 : (na == y1) = true := by simpa using q1
    have HC := Lib.hid q1
    clear q1
    have HQ : Hid (R = .agg #[.int .u32 na, .int .u32 sa, .int .u32 qa, .int .i64 za, .int .i64 pa, .int .i64 ba, .slice A n c]) := Lib.hid (by rw [← HR.out, if_pos (by rw [HN.out]; simp [HC.out])])
    clear HR HN
    go_enter Tryz.func58, Tryz.ntmps58
    go_wp2_with fail
    refine bodyPost_ret (v := .agg #[.int .u32 na, .int .u32 sa, .int .u32 qa, .int .i64 za, .int .i64 pa, .int .i64 ba, .slice A n c]) (by simp [results, Tryz.results58, go_sem]) rfl ?_
    rw [HQ.out]
    exact ⟨rfl, (((Below.refl _ w).alloc (Nat.le_refl _) _).alloc (by simp) _).alloc (by simp; omega) _⟩
  · have k1 : (na == y1) = false := by simpa using q1
    have HC := Lib.hid q1
    clear q1
    by_cases q2 : nb = y2
    · have k2 : (nb != y2) = false := by simpa using q2
      have HC2 := Lib.hid q2
      clear q2
      have HQ : Hid (R = .agg #[.int .u32 nb, .int .u32 sb, .int .u32 qb, .int .i64 zb, .int .i64 pb, .int .i64 bb, .slice A2 n2 c2]) := Lib.hid (by rw [← HR.out, if_neg (by rw [HN.out]; simp [HC.out, HC2.out])])
      clear HR HN
      go_enter Tryz.func58, Tryz.ntmps58
      go_wp2_with fail
      refine bodyPost_ret (v := .agg #[.int .u32 nb, .int .u32 sb, .int .u32 qb, .int .i64 zb, .int .i64 pb, .int .i64 bb, .slice A2 n2 c2]) (by simp [results, Tryz.results58, go_sem]) rfl ?_
      rw [HQ.out]
      exact ⟨rfl, (((Below.refl _ w).alloc (Nat.le_refl _) _).alloc (by simp) _).alloc (by simp; omega) _⟩
    · have k2 : (nb != y2) = true := by simpa using q2
      have HC2 := Lib.hid q2
      clear q2
      by_cases q3 : nb < na
      · have HC3 := Lib.hid q3
        have HQ : Hid (R = .agg #[.int .u32 na, .int .u32 sa, .int .u32 qa, .int .i64 za, .int .i64 pa, .int .i64 ba, .slice A n c]) := Lib.hid (by rw [← HR.out, if_pos (by rw [HN.out]; simp [HC2.out, HC3.out])])
        clear HR HN
        go_enter Tryz.func58, Tryz.ntmps58
        go_wp2_with fail
        refine bodyPost_ret (v := .agg #[.int .u32 na, .int .u32 sa, .int .u32 qa, .int .i64 za, .int .i64 pa, .int .i64 ba, .slice A n c]) (by simp [results, Tryz.results58, go_sem]) rfl ?_
        rw [HQ.out]
        exact ⟨rfl, (((Below.refl _ w).alloc (Nat.le_refl _) _).alloc (by simp) _).alloc (by simp; omega) _⟩
      · have HC3 := Lib.hid q3
        have HQ : Hid (R = .agg #[.int .u32 nb, .int .u32 sb, .int .u32 qb, .int .i64 zb, .int .i64 pb, .int .i64 bb, .slice A2 n2 c2]) := Lib.hid (by rw [← HR.out, if_neg (by rw [HN.out]; simp [HC.out, HC3.out])])
        clear HR HN
        go_enter Tryz.func58, Tryz.ntmps58
        go_wp2_with fail
        refine bodyPost_ret (v := .agg #[.int .u32 nb, .int .u32 sb, .int .u32 qb, .int .i64 zb, .int .i64 pb, .int .i64 bb, .slice A2 n2 c2]) (by simp [results, Tryz.results58, go_sem]) rfl ?_
        rw [HQ.out]
        exact ⟨rfl, (((Below.refl _ w).alloc (Nat.le_refl _) _).alloc (by simp) _).alloc (by simp; omega) _⟩
/-- What is read of a page. -/
theorem hpage_at {A : Option Addr} {ps : List Int} {n c : Nat} {w : World} (hr : Rd w w.heap.size A ps) (hx : Byt ps) (hl : ps.length = n) (hc : n ≤ c) : Calls Tryz.prog 137 #[.slice A n c] w (fun r w' => (pgE ps = 0 ∧ ReadOk ps w r w') ∨ (pgE ps ≠ 0 ∧ ReadNo (pgE ps) w r w')) := by
  by_cases hn : n = 33
  · subst hn
    obtain ⟨b, o, rfl, _, _⟩ := hr (by omega)
    by_cases hs : bk ps 13 = tot ps
    · by_cases hk : rightK (ps.getD 0 0) = true
      · have e : pgE ps = 0 := by unfold pgE; rw [if_neg (by omega), if_neg (by simpa using hs), if_neg (by unfold rightK at hk; rw [hk]; decide)]
        exact (read_ok b o c ps w hr hx hl hc hs hk).mono fun r w' h => .inl ⟨e, h⟩
      · have hk' : rightK (ps.getD 0 0) = false := by simpa using hk
        have e : pgE ps = 2 := by unfold pgE; rw [if_neg (by omega), if_neg (by simpa using hs), if_pos (by unfold rightK at hk'; exact hk')]
        exact (read_form b o c ps w hr hx hl hc hs hk').mono fun r w' h => .inr ⟨by omega, by rw [e]; exact h⟩
    · have e : pgE ps = 4 := by unfold pgE; rw [if_neg (by omega), if_pos (by simpa using hs)]
      exact (read_sum b o c ps w hr hx hl hc hs).mono fun r w' h => .inr ⟨by omega, by rw [e]; exact h⟩
  · have e : pgE ps = 3 := by unfold pgE; rw [if_pos (by omega)]
    exact (read_short A n c w hn).mono fun r w' h => .inr ⟨by omega, by rw [e]; exact h⟩
abbrev pV (k s i q : Int) (v : Value) : Value := .agg #[.int .u8 k, .int .u32 s, .int .u32 i, .int .u32 q, v]
/-- Why page p of zone zi can't be read as a page. -/
def pageE (S : DevS) (zi p : Int) : Int := if S.readE zi p ≠ 0 then S.readE zi p else pgE (S.readB zi p)
/-- What read tells of a page. -/
def PageIs (e : Int) (ps : List Int) (w : World) (r : Ending) (w' : World) : Prop :=
  (e = 0 ∧ ∃ g cap, r = .returned (.tuple #[pV (ps.getD 0 0) (bk ps 1) (bk ps 5) (bk ps 9) (.slice (some ⟨g, 0, none⟩) 16 cap), .nilIface]) ∧ Own8 w' w.heap.size g cap (ps.drop 17) ∧ Below w.heap.size w w') ∨
  (e ≠ 0 ∧ r = .returned (.tuple #[pV 0 0 0 0 (.slice none 0 0), .iface 31 (.int .i64 e)]) ∧ Below w.heap.size w w')
theorem zone_byt {S : DevS} (h : S.WF) (n : Int) : ∀ b ∈ (S.zone n).pages, Byt b := by
  intro b hb
  unfold DevS.zone at hb
  rw [List.getD_eq_getElem?_getD] at hb
  by_cases hl : n.toNat < S.zones.length
  · rw [List.getElem?_eq_getElem hl, Option.getD_some] at hb
    exact ((h.pages _ (List.getElem_mem hl)).2.2 b hb).2
  · rw [List.getElem?_eq_none (by omega)] at hb
    simp [ZoneS.empty] at hb
theorem readB_byt {S : DevS} (h : S.WF) (n p : Int) : Byt (S.readB n p) := by
  unfold DevS.readB
  split
  · rw [List.getD_eq_getElem?_getD]
    by_cases hl : p.toNat < (S.zone n).pages.length
    · rw [List.getElem?_eq_getElem hl, Option.getD_some]
      exact zone_byt h n _ (List.getElem_mem hl)
    · rw [List.getElem?_eq_none (by omega)]
      intro x hx
      cases hx
  · intro x hx
    cases hx
theorem grown5 (u : World) (g : Nat) (v0 v1 v2 v3 v4 : Value) : u.grownBy (((((u.setCell ⟨g, 0, none⟩ v0).setCell ⟨g, 1, none⟩ v1).setCell ⟨g, 2, none⟩ v2).setCell ⟨g, 3, none⟩ v3).setCell ⟨g, 4, none⟩ v4) (some g) :=
  grown_put (grown_put (grown_put (grown_put (grown_put (World.grownBy.refl _ _) 0 _) 1 _) 2 _) 3 _) 4 _
theorem below_five {B g : Nat} {w w' : World} (h : Below B w w') (hg : B ≤ g) (v0 v1 v2 v3 v4 : Value) : Below B w (((((w'.setCell ⟨g, 0, none⟩ v0).setCell ⟨g, 1, none⟩ v1).setCell ⟨g, 2, none⟩ v2).setCell ⟨g, 3, none⟩ v3).setCell ⟨g, 4, none⟩ v4) :=
  ((((h.setCell (p := ⟨g, 0, none⟩) hg _).setCell (p := ⟨g, 1, none⟩) hg _).setCell (p := ⟨g, 2, none⟩) hg _).setCell (p := ⟨g, 3, none⟩) hg _).setCell (p := ⟨g, 4, none⟩) hg _
abbrev pList : List Value := [.int .u8 0, .int .u32 0, .int .u32 0, .int .u32 0, .slice none 0 0]
set_option maxHeartbeats 4000000 in
theorem slread_at (Z : ZBas) {F : Nat → Prop} {w : World} {db : Nat} {S : DevS} (zi p : Int) (h : Z.D F w db S) : Calls Tryz.prog 129 #[.pointer (some ⟨db, 0, none⟩), .int .i64 zi, .int .i64 p] w (PageIs (pageE S zi p) (S.readB zi p) w) := by
  have HH := Lib.hid h
  have HBY : Hid (Byt (S.readB zi p)) := Lib.hid (readB_byt (Z.wf h) zi p)
  have HPE : Hid (pageE S zi p = if S.readE zi p ≠ 0 then S.readE zi p else pgE (S.readB zi p)) := Lib.hid rfl
  obtain ⟨pe, hpe⟩ : ∃ x, pageE S zi p = x := ⟨_, rfl⟩
  obtain ⟨ps, hps⟩ : ∃ x, S.readB zi p = x := ⟨_, rfl⟩
  obtain ⟨re, hre⟩ : ∃ x, S.readE zi p = x := ⟨_, rfl⟩
  rw [hpe, hps, hre] at HPE
  rw [hps] at HBY
  rw [hpe, hps]
  have HRE := Lib.hid hre
  have HPS := Lib.hid hps
  have HK0 := Lib.hid (KeptK.new w 188 pList)
  clear h hpe hps hre
  go_enter Tryz.func129, Tryz.ntmps129
  go_wp2_with fail
  refine (Z.read zi p (Z.up HH.out HK0.out.1)).mono ?_
  rintro r w1 ⟨v, rfl, hv, hb⟩
  rw [HRE.out]
  rw [HPS.out] at hv
  have HK1 := Lib.hid (HK0.out.up hb)
  by_cases e0 : re = 0
  · rw [show errV re = .nilIface from if_pos e0]
    obtain ⟨A, c, rfl, hc, hr, _, _⟩ := hv
    have HR := Lib.hid hr
    have HC := Lib.hid hc
    have HE0 : Hid (pe = pgE ps) := Lib.hid (by rw [HPE.out, if_neg (by simpa using e0)])
    clear hb hr hc e0
    go_wp2_with fail
    refine (hpage_at HR.out HBY.out rfl HC.out).mono ?_
    rintro r w2 (⟨e1, g, cap, rfl, ho, hb2⟩ | ⟨e1, rfl, hb2⟩)
    · obtain ⟨k0, hk0⟩ : ∃ x, ps.getD 0 0 = x := ⟨_, rfl⟩
      obtain ⟨k1, hk1⟩ : ∃ x, bk ps 1 = x := ⟨_, rfl⟩
      obtain ⟨k2, hk2⟩ : ∃ x, bk ps 5 = x := ⟨_, rfl⟩
      obtain ⟨k3, hk3⟩ : ∃ x, bk ps 9 = x := ⟨_, rfl⟩
      rw [hk0, hk1, hk2, hk3]
      have HKS := Lib.hid (And.intro hk0 (And.intro hk1 (And.intro hk2 hk3)))
      have HE1 : Hid (pe = 0) := Lib.hid (by rw [HE0.out, e1])
      have HO2 := Lib.hid ho
      have HK2 := Lib.hid (HK1.out.up hb2)
      obtain ⟨w3, hw3⟩ : ∃ u, w2.alloc (.cells #[.int .u8 k0, .int .u32 k1, .int .u32 k2, .int .u32 k3] 159) = u := ⟨_, rfl⟩
      have hb3 : Below w2.heap.size w2 w3 := by rw [← hw3]; exact (Below.refl _ _).alloc (Nat.le_refl _) _
      have hx3 : Blk w3 w2.heap.size 159 [.int .u8 k0, .int .u32 k1, .int .u32 k2, .int .u32 k3] := by rw [← hw3]; exact heap_alloc_new w2 _
      have HK3 := Lib.hid (HK2.out.up hb3)
      have HO3 := Lib.hid (HO2.out.rise hb3)
      have x0 := hx3.cell 0 (by simp)
      have x1 := hx3.cell 1 (by simp)
      have x2 := hx3.cell 2 (by simp)
      have x3 := hx3.cell 3 (by simp)
      simp only [List.getElem_cons_zero, List.getElem_cons_succ] at x0 x1 x2 x3
      have e0 := HK3.out.2.cell 0 (by simp)
      have e1 := HK3.out.2.cell 1 (by simp)
      have e2 := HK3.out.2.cell 2 (by simp)
      have e3 := HK3.out.2.cell 3 (by simp)
      have e4 := HK3.out.2.cell 4 (by simp)
      have p0 := fun k => HK3.out.2.free k
      simp only [List.getElem_cons_zero, List.getElem_cons_succ] at e0 e1 e2 e3 e4
      clear hk0 hk1 hk2 hk3 ho hb2 hb3 hx3
      go_wp2_with fail
      refine bodyPost_ret (v := .tuple #[pV k0 k1 k2 k3 (.slice (some ⟨g, 0, none⟩) 16 cap), .nilIface]) (by simp [results, Tryz.results129, go_sem, e0, e1, e2, e3, e4]) rfl ?_
      obtain ⟨rfl, rfl, rfl, rfl⟩ := HKS.out
      refine .inl ⟨HE1.out, g, cap, rfl, ?_, below_five HK3.out.1 (Nat.le_refl _) _ _ _ _ _⟩
      refine (HO3.out.le ?_).kept (grown5 _ _ _ _ _ _ _) ?_
      · have := HK1.out.1.size
        omega
      · intro e
        have := Option.some.inj e
        have := HO3.out.mem.1
        have := lt_of_block HK1.out.2
        omega
    · obtain ⟨t, ht⟩ : ∃ x, pgE ps = x := ⟨_, rfl⟩
      rw [ht] at e1 HE0 ⊢
      have HE1 := Lib.hid e1
      have HK2 := Lib.hid (HK1.out.up hb2)
      obtain ⟨w3, hw3⟩ : ∃ u, w2.alloc (.cells #[.int .u8 0, .int .u32 0, .int .u32 0, .int .u32 0] 159) = u := ⟨_, rfl⟩
      have hb3 : Below w2.heap.size w2 w3 := by rw [← hw3]; exact (Below.refl _ _).alloc (Nat.le_refl _) _
      have hx3 : Blk w3 w2.heap.size 159 [.int .u8 0, .int .u32 0, .int .u32 0, .int .u32 0] := by rw [← hw3]; exact heap_alloc_new w2 _
      obtain ⟨xb, hxb⟩ : ∃ x, w2.heap.size = x := ⟨_, rfl⟩
      rw [hxb] at hx3
      obtain ⟨w4, hw4⟩ : ∃ u, ((((w3.setCell ⟨xb, 0, none⟩ (.int .u8 0)).setCell ⟨xb, 1, none⟩ (.int .u32 0)).setCell ⟨xb, 2, none⟩ (.int .u32 0)).setCell ⟨xb, 3, none⟩ (.int .u32 0)) = u := ⟨_, rfl⟩
      have k4 := (((((Kept.refl (fun j => j = xb) w3).put (g := xb) (.inl rfl) 0 (.int .u8 0)).put (g := xb) (.inl rfl) 1 (.int .u32 0)).put (g := xb) (.inl rfl) 2 (.int .u32 0)).put (g := xb) (.inl rfl) 3 (.int .u32 0))
      have hx4 := ((((hx3.put 0 (.int .u8 0)).put 1 (.int .u32 0)).put 2 (.int .u32 0)).put 3 (.int .u32 0))
      rw [hw4] at k4 hx4
      have HK3 := Lib.hid (HK2.out.up (hb3.trans (k4.below hb3.size (fun j e => by omega))))
      have n0 := hx3.cell 0 (by simp)
      have n1 := hx3.cell 1 (by simp)
      have n2 := hx3.cell 2 (by simp)
      have n3 := hx3.cell 3 (by simp)
      have nf := fun j => hx3.free j
      have x0 := hx4.cell 0 (by simp)
      have x1 := hx4.cell 1 (by simp)
      have x2 := hx4.cell 2 (by simp)
      have x3 := hx4.cell 3 (by simp)
      simp only [List.set_cons_zero, List.set_cons_succ, List.getElem_cons_zero, List.getElem_cons_succ] at n0 n1 n2 n3 x0 x1 x2 x3
      have e0 := HK3.out.2.cell 0 (by simp)
      have e1 := HK3.out.2.cell 1 (by simp)
      have e2 := HK3.out.2.cell 2 (by simp)
      have e3 := HK3.out.2.cell 3 (by simp)
      have e4 := HK3.out.2.cell 4 (by simp)
      have p0 := fun k => HK3.out.2.free k
      simp only [List.getElem_cons_zero, List.getElem_cons_succ] at e0 e1 e2 e3 e4
      clear ht hb2 hb3 hx3 hx4 k4
      go_wp2_with fail
      refine bodyPost_ret (v := .tuple #[pV 0 0 0 0 (.slice none 0 0), .iface 31 (.int .i64 t)]) (by simp [results, Tryz.results129, go_sem, e0, e1, e2, e3, e4]) rfl ?_
      exact .inr ⟨by rw [HE0.out]; exact HE1.out, by rw [HE0.out], below_five HK3.out.1 (Nat.le_refl _) _ _ _ _ _⟩
  · rw [show errV re = .iface 31 (.int .i64 re) from if_neg e0]
    have HE0 : Hid (pe = re) := Lib.hid (by rw [HPE.out, if_pos e0])
    obtain ⟨A, c, rfl, _⟩ := hv
    have HE1 := Lib.hid e0
    clear e0
    have e0 := HK1.out.2.cell 0 (by simp)
    have e1 := HK1.out.2.cell 1 (by simp)
    have e2 := HK1.out.2.cell 2 (by simp)
    have e3 := HK1.out.2.cell 3 (by simp)
    have e4 := HK1.out.2.cell 4 (by simp)
    have p0 := fun k => HK1.out.2.free k
    simp only [List.getElem_cons_zero, List.getElem_cons_succ] at e0 e1 e2 e3 e4
    clear hb
    go_wp2_with fail
    refine bodyPost_ret (v := .tuple #[pV 0 0 0 0 (.slice none 0 0), .iface 31 (.int .i64 re)]) (by simp [results, Tryz.results129, go_sem, e0, e1, e2, e3, e4]) rfl ?_
    exact .inr ⟨by rw [HE0.out]; exact HE1.out, by rw [HE0.out], below_five HK1.out.1 (Nat.le_refl _) _ _ _ _ _⟩
end Go.Proofs.YthmpimjmajoimaaGreatDoor
namespace Go.Proofs.YthmpimjmajoimaaGreatDoor
open Go.RowKit

/-- A page that is told: why it is none, its bytes, where its block lies. -/
structure PgX where
  e : Int
  ps : List Int
  g : Nat
  cap : Nat
def PgX.v (x : PgX) : Value := if x.e = 0 then pV (x.ps.getD 0 0) (bk x.ps 1) (bk x.ps 5) (bk x.ps 9) (.slice (some ⟨x.g, 0, none⟩) 16 x.cap) else pV 0 0 0 0 (.slice none 0 0)
def encX (x : PgX) : Array Value := #[x.v, errV x.e]
/-- x comes behind pre. -/
def NextX (S : DevS) (zi : Int) (base : Nat) (pre : List PgX) (x : PgX) (W : World) : Prop :=
  pre.length < S.point zi ∧ x.e = pageE S zi (pre.length : Int) ∧ x.ps = S.readB zi (pre.length : Int) ∧ (x.e = 0 → Own8 W base x.g x.cap (x.ps.drop 17))
theorem encX_ok (ps : List Int) (g cap : Nat) : encX ⟨0, ps, g, cap⟩ = #[pV (ps.getD 0 0) (bk ps 1) (bk ps 5) (bk ps 9) (.slice (some ⟨g, 0, none⟩) 16 cap), .nilIface] := by
  simp [encX, PgX.v, errV]
theorem encX_no (e : Int) (ps : List Int) (g cap : Nat) (h : e ≠ 0) : encX ⟨e, ps, g, cap⟩ = #[pV 0 0 0 0 (.slice none 0 0), .iface 31 (.int .i64 e)] := by
  simp [encX, PgX.v, errV, h]
theorem ownFrom_up {β : Type} {B : Nat} {J : β → World → Prop} (h : OwnFrom B J) {s : β} {A C : World} (hj : J s A) (hb : Below A.heap.size A C) : J s C := ownFrom_step h hj hb
theorem slwritten_at (w : World) (d : Nat) (zi : Int) : Calls Tryz.prog 109 #[.pointer (some ⟨d, 0, none⟩), .int .i64 zi] w (fun r w' => r = .returned (.func (.func 128) #[] #[.pointer (some ⟨w.heap.size, 0, none⟩), .pointer (some ⟨w.heap.size + 1, 0, none⟩)]) ∧
    w' = (w.alloc (.cells #[.pointer (some ⟨d, 0, none⟩)] 25)).alloc (.cells #[.int .i64 zi] 3)) := by
  go_enter Tryz.func109, Tryz.ntmps109
  go_wp2_with fail
  go_ret
  exact ⟨rfl, rfl⟩
set_option maxHeartbeats 2000000 in
set_option maxRecDepth 100000 in
theorem written_in (Z : ZBas) {F B3 : Nat → Prop} {db b1 b2 base m : Nat} {zi : Int} {S : DevS} (hm : S.point zi = m) (hm2 : m ≤ 1000) (hF : ∀ k, F k → ¬ B3 k) (h1 : ¬ B3 b1) (h2 : ¬ B3 b2) (l : Nat) (J Jx : List PgX → World → Prop) (W : World) (hb : base ≤ W.heap.size)
    (hJ : OwnFrom W.heap.size J) (hY : ∀ pre x W1, J pre W1 → NextX S zi base pre x W1 → YieldAt Fence.wide 1 Tryz.prog l (encX x) W1 fun e W' => (e = .returned (.bool true) ∧ J (pre ++ [x]) W' ∧ Kept B3 W1 W') ∨ (e = .returned (.bool false) ∧ Jx (pre ++ [x]) W'))
    (h0 : J [] W) (hD : Z.D F W db S) (hx1 : Boxed W b1 25 (.pointer (some ⟨db, 0, none⟩))) (hx2 : Boxed W b2 3 (.int .i64 zi)) :
    Calls Tryz.prog 128 #[.func (.yield l) #[] #[], .pointer (some ⟨b1, 0, none⟩), .pointer (some ⟨b2, 0, none⟩)] W fun e W' => (∃ v, e = .returned v) ∧ ((∃ xs : List PgX, xs.length = m ∧ J xs W') ∨ ∃ xs, Jx xs W') := by
  have HM := Lib.hid hm
  have HF := Lib.hid (And.intro hF (And.intro h1 h2))
  have HB := Lib.hid hb
  have HJ := Lib.hid hJ
  have HY := Lib.hid hY
  have H0 := Lib.hid h0
  have HD := Lib.hid hD
  have HX1 := Lib.hid hx1
  have HX2 := Lib.hid hx2
  have c1 := hx1.cell
  have c2 := hx2.cell
  clear hm hF h1 h2 hb hJ hY h0 hD hx1 hx2
  go_enter Tryz.func128, Tryz.ntmps128
  go_wp2_with fail
  refine (Z.point zi HD.out).mono ?_
  rintro r w1 ⟨rfl, hb⟩
  rw [HM.out]
  have HJ1 : Hid (J [] w1) := Lib.hid (ownFrom_up HJ.out H0.out hb)
  have HD1 := Lib.hid (Z.up HD.out hb)
  have HX11 : Hid (Boxed w1 b1 25 (.pointer (some ⟨db, 0, none⟩))) := Lib.hid ((hb.block b1 HX1.out.lt).trans HX1.out)
  have HX12 : Hid (Boxed w1 b2 3 (.int .i64 zi)) := Lib.hid ((hb.block b2 HX2.out.lt).trans HX2.out)
  have HS1 : Hid (W.heap.size ≤ w1.heap.size) := Lib.hid hb.size
  clear hb c1 c2 H0 HD HX1 HX2
  go_wp2_with fail
  go_loopg [8] m (fun q x wr => ∃ (j : Nat) (pre : List PgX), j ≤ m ∧ q = m - j ∧ x = .int .i64 (j : Int) ∧ pre.length = j ∧ J pre wr ∧ Z.D F wr db S ∧ Boxed wr b1 25 (.pointer (some ⟨db, 0, none⟩)) ∧ Boxed wr b2 3 (.int .i64 zi) ∧ W.heap.size ≤ wr.heap.size)
  case atStart => exact ⟨0, [], by omega, by omega, rfl, rfl, HJ1.out, HD1.out, HX11.out, HX12.out, HS1.out⟩
  case round =>
    clear HJ1 HD1 HX11 HX12 HS1
    obtain ⟨j, pre, hj, hq, rfl, hpl, hjp, hd, hx1, hx2, hsz⟩ := hrel
    have HQ := Lib.hid hq
    have HPL := Lib.hid hpl
    have HJP := Lib.hid hjp
    have HD := Lib.hid hd
    have HX1 := Lib.hid hx1
    have HX2 := Lib.hid hx2
    have HSZ := Lib.hid hsz
    have c1 := hx1.cell
    have c2 := hx2.cell
    clear hq hpl hjp hd hx1 hx2 hsz
    by_cases hlt : j < m
    · go_upto_region 3 with fail
      refine (wpIn_wide (n := 2)).1 ?_
      gi_wp2
      refine ⟨trivial, (callsIn_wide.2 (slread_at Z zi (j : Int) HD.out)).mono ?_⟩
      obtain ⟨pe, hpe⟩ : ∃ x, pageE S zi (j : Int) = x := ⟨_, rfl⟩
      obtain ⟨ps, hps⟩ : ∃ x, S.readB zi (j : Int) = x := ⟨_, rfl⟩
      rw [hpe, hps]
      have HPE := Lib.hid (And.intro hpe hps)
      clear hpe hps
      rintro r w3 (⟨e0, g, cap, rfl, ho, hb⟩ | ⟨e0, rfl, hb⟩)
      · have HE0 := Lib.hid e0
        have HC3 : Hid (Below wr.heap.size wr w3) := Lib.hid hb
        obtain ⟨fn, tmps, assign, body, hy, hR⟩ := HY.out pre ⟨0, ps, g, cap⟩ w3 (ownFrom_up HJ.out HJP.out hb) ⟨by rw [HPL.out, HM.out]; exact hlt, by rw [HPL.out, HPE.out.1]; exact e0.symm, by rw [HPL.out]; exact HPE.out.2.symm, fun _ => ho.le (by have := HB.out; have := HSZ.out; omega)⟩
        rw [encX_ok] at hy
        obtain ⟨k0, hk0⟩ : ∃ x, ps.getD 0 0 = x := ⟨_, rfl⟩
        obtain ⟨k1, hk1⟩ : ∃ x, bk ps 1 = x := ⟨_, rfl⟩
        obtain ⟨k2, hk2⟩ : ∃ x, bk ps 5 = x := ⟨_, rfl⟩
        obtain ⟨k3, hk3⟩ : ∃ x, bk ps 9 = x := ⟨_, rfl⟩
        rw [hk0, hk1, hk2, hk3] at hy ⊢
        clear hk0 hk1 hk2 hk3
        have HRI := Lib.hid hR
        clear hR hb ho e0
        gi_wp2
        refine HRI.out.mono ?_
        rintro e w4 (⟨rfl, hj4, hk4⟩ | ⟨rfl, hj4⟩)
        · have HJ4 := Lib.hid hj4
          have HD4 := Lib.hid (Z.keep (Z.up HD.out HC3.out) hk4 HF.out.1)
          have HX41 : Hid (Boxed w4 b1 25 (.pointer (some ⟨db, 0, none⟩))) := Lib.hid ((hk4.block b1 (Nat.lt_of_lt_of_le HX1.out.lt HC3.out.size) HF.out.2.1).trans ((HC3.out.block b1 HX1.out.lt).trans HX1.out))
          have HX42 : Hid (Boxed w4 b2 3 (.int .i64 zi)) := Lib.hid ((hk4.block b2 (Nat.lt_of_lt_of_le HX2.out.lt HC3.out.size) HF.out.2.2).trans ((HC3.out.block b2 HX2.out.lt).trans HX2.out))
          have HS4 : Hid (W.heap.size ≤ w4.heap.size) := Lib.hid (Nat.le_trans HSZ.out (Nat.le_trans HC3.out.size hk4.size))
          clear hj4 hk4 HRI hy HX1 HX2 HD HSZ HJP
          gi_wp2
          go_wp2_with fail
          go_roundg (m - (j + 1))
          case rel => exact ⟨j + 1, pre ++ [⟨0, ps, g, cap⟩], by omega, rfl, by go_num, by rw [List.length_append, HPL.out]; rfl, HJ4.out, HD4.out, HX41.out, HX42.out, HS4.out⟩
          case measure => have := HQ.out; omega
        · have HJ4 := Lib.hid hj4
          clear hj4 HRI hy HX1 HX2 HD HSZ HJP
          gi_wp2
          go_wp2_with fail
          refine bodyPost_ret (v := .tuple #[]) (by simp [results, Tryz.results128, go_sem]) rfl ?_
          exact ⟨⟨_, rfl⟩, .inr ⟨_, HJ4.out⟩⟩
      · have HE0 := Lib.hid e0
        have HC3 : Hid (Below wr.heap.size wr w3) := Lib.hid hb
        obtain ⟨fn, tmps, assign, body, hy, hR⟩ := HY.out pre ⟨pe, ps, 0, 0⟩ w3 (ownFrom_up HJ.out HJP.out hb) ⟨by rw [HPL.out, HM.out]; exact hlt, by rw [HPL.out, HPE.out.1], by rw [HPL.out]; exact HPE.out.2.symm, fun h => absurd h e0⟩
        rw [encX_no _ _ _ _ e0] at hy
        have HRI := Lib.hid hR
        clear hR hb e0
        gi_wp2
        refine HRI.out.mono ?_
        rintro e w4 (⟨rfl, hj4, hk4⟩ | ⟨rfl, hj4⟩)
        · have HJ4 := Lib.hid hj4
          have HD4 := Lib.hid (Z.keep (Z.up HD.out HC3.out) hk4 HF.out.1)
          have HX41 : Hid (Boxed w4 b1 25 (.pointer (some ⟨db, 0, none⟩))) := Lib.hid ((hk4.block b1 (Nat.lt_of_lt_of_le HX1.out.lt HC3.out.size) HF.out.2.1).trans ((HC3.out.block b1 HX1.out.lt).trans HX1.out))
          have HX42 : Hid (Boxed w4 b2 3 (.int .i64 zi)) := Lib.hid ((hk4.block b2 (Nat.lt_of_lt_of_le HX2.out.lt HC3.out.size) HF.out.2.2).trans ((HC3.out.block b2 HX2.out.lt).trans HX2.out))
          have HS4 : Hid (W.heap.size ≤ w4.heap.size) := Lib.hid (Nat.le_trans HSZ.out (Nat.le_trans HC3.out.size hk4.size))
          clear hj4 hk4 HRI hy HX1 HX2 HD HSZ HJP
          gi_wp2
          go_wp2_with fail
          go_roundg (m - (j + 1))
          case rel => exact ⟨j + 1, pre ++ [⟨pe, ps, 0, 0⟩], by omega, rfl, by go_num, by rw [List.length_append, HPL.out]; rfl, HJ4.out, HD4.out, HX41.out, HX42.out, HS4.out⟩
          case measure => have := HQ.out; omega
        · have HJ4 := Lib.hid hj4
          clear hj4 HRI hy HX1 HX2 HD HSZ HJP
          gi_wp2
          go_wp2_with fail
          refine bodyPost_ret (v := .tuple #[]) (by simp [results, Tryz.results128, go_sem]) rfl ?_
          exact ⟨⟨_, rfl⟩, .inr ⟨_, HJ4.out⟩⟩
    · have e : j = m := by omega
      subst e
      go_wp2_with fail
      go_end0
      exact ⟨⟨_, rfl⟩, .inl ⟨pre, HPL.out, HJP.out⟩⟩
end Go.Proofs.YthmpimjmajoimaaGreatDoor
