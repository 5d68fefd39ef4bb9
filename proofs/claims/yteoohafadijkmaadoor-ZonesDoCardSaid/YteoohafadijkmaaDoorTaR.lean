/-
  The document's table in memory: New, State, last, Age, Closed.
-/
import Derived.Test.YteoohafadijkmaaDoorTaMath
import Derived.Test.YteoohafadijkmaaDoorRowK
import Derived.Test.YteoohafadijkmaaDoorCel
import Derived.Test.YteoohafadijkmaaDoorCutR
namespace Go.Proofs.YteoohafadijkmaaDoor
open Go.RowKit

theorem OwnK.keepAt {w w' : World} {base k n : Nat} {T : TypeId} {v : Value} {cs : List Value} {F : Nat → Prop} (h : OwnK w base T k v n cs) (hk : Kept F w w') (hn : ∀ j, v.ownBlock = some j → ¬ F j) : OwnK w' base T k v n cs :=
  ⟨h.1, h.2.imp id fun ⟨g', c', cur, hv, hb, hc, r⟩ => ⟨g', c', cur, hv, hb, (hk.block g' (lt_of_block hc) (hn g' (by rw [hv]; rfl))).trans hc, r⟩⟩
theorem OwnK.ltAt {w : World} {base k n : Nat} {T : TypeId} {v : Value} {cs : List Value} (h : OwnK w base T k v n cs) : ∀ j, v.ownBlock = some j → j < w.heap.size := by
  rcases h.2 with ⟨rfl, _⟩ | ⟨g, cap, cur, rfl, hb, hg, _⟩
  · intro j hj
    cases hj
  · intro j hj
    simp [Value.ownBlock] at hj
    subst hj
    exact lt_of_block hg
/-- Block rt is the document's table T: the rows of its states (in block sb), of free ones, of closings. -/
structure RtC (w : World) (rt sb c : Nat) (vr vd : Value) (T : TaS) : Prop where
  b : Blk w rt 46 [.slice (some ⟨sb, 0, none⟩) T.st.length c, vr, vd]
  s : OwnK w (rt + 1) 3 1 (.slice (some ⟨sb, 0, none⟩) T.st.length c) T.st.length (iCells T.st)
  r : OwnK w (rt + 1) 3 1 vr T.row.length (iCells T.row)
  d : OwnK w (rt + 1) 3 1 vd T.done.length (iCells T.done)
  ar : vr.ownBlock ≠ some sb
  ad : vd.ownBlock ≠ some sb
/-- .. within G. -/
def RtF (G : Nat → Prop) (w : World) (rt : Nat) (T : TaS) : Prop := ∃ sb c vr vd, RtC w rt sb c vr vd T ∧ G rt ∧ G sb ∧ (∀ j, vr.ownBlock = some j → G j) ∧ (∀ j, vd.ownBlock = some j → G j) ∧ (∀ k, G k → k < w.heap.size) ∧ T.WF
section
variable {F G : Nat → Prop} {w w' : World} {rt sb c : Nat} {vr vd : Value} {T : TaS}
theorem RtC.cells (h : RtC w rt sb c vr vd T) : w.cell? ⟨rt, 0, none⟩ = some (.slice (some ⟨sb, 0, none⟩) T.st.length c) ∧ w.cell? ⟨rt, 1, none⟩ = some vr ∧ w.cell? ⟨rt, 2, none⟩ = some vd := ⟨h.b.cell 0 (by simp), h.b.cell 1 (by simp), h.b.cell 2 (by simp)⟩
theorem RtC.up (h : RtC w rt sb c vr vd T) (hb : Below w.heap.size w w') : RtC w' rt sb c vr vd T := ⟨h.b.up hb (lt_of_block h.b), h.s.up hb, h.r.up hb, h.d.up hb, h.ar, h.ad⟩
theorem RtF.keep (h : RtF G w rt T) (hk : Kept F w w') (hn : ∀ k, G k → ¬ F k) : RtF G w' rt T := by
  obtain ⟨sb, c, vr, vd, hc, g1, g2, g3, g4, g5, hw⟩ := h
  exact ⟨sb, c, vr, vd, ⟨hk.blk hc.b (hn _ g1), hc.s.keepAt hk (fun j e => by cases e; exact hn _ g2), hc.r.keepAt hk (fun j e => hn _ (g3 j e)), hc.d.keepAt hk (fun j e => hn _ (g4 j e)), hc.ar, hc.ad⟩, g1, g2, g3, g4, fun k hg => Nat.lt_of_lt_of_le (g5 k hg) hk.size, hw⟩
theorem RtF.up (h : RtF G w rt T) (hb : Below w.heap.size w w') : RtF G w' rt T := h.keep (F := fun _ => False) (Kept.of_below hb) (fun _ _ => id)
theorem RtF.wf (h : RtF G w rt T) : T.WF := by
  obtain ⟨sb, c, vr, vd, _, _, _, _, _, _, hw⟩ := h
  exact hw
theorem RtF.lt (h : RtF G w rt T) : ∀ k, G k → k < w.heap.size := by
  obtain ⟨sb, c, vr, vd, _, _, _, _, _, hg, _⟩ := h
  exact hg
end
theorem i_cells {w : World} {b o : Nat} {l : List Int} (h : ∀ i (h : i < (iCells l).length), w.cell? ⟨b, o + i, none⟩ = some (iCells l)[i]) (k : Nat) (hk : k < l.length) : w.cell? ⟨b, o + k, none⟩ = some (.int .i64 l[k]) := by
  rw [h k (by rw [iCells_len]; exact hk)]
  simp [iCells]
/-- How a zone is, and whether it is one. -/
def StIs (T : TaS) (z : Int) (w : World) (r : Ending) (w' : World) : Prop := r = .returned (.tuple #[.int .i64 (T.stA z), .bool (T.inB z)]) ∧ w = w'
section
variable {G : Nat → Prop} {w : World} {rt : Nat} {T : TaS}
set_option maxHeartbeats 1000000 in
theorem rtstate_at (z : Int) (h : RtF G w rt T) : Calls Tryd.prog 11 #[.pointer (some ⟨rt, 0, none⟩), .int .i64 z] w (StIs T z w) := by
  obtain ⟨sb, c, vr, vd, hc, _, _, _, _, _, hw⟩ := h
  have hrd := hc.s.rd
  obtain ⟨y0, _, _⟩ := hc.cells
  have hn24 := hw.len.2
  by_cases h0 : z < 0
  · have d0 : decide (z < 0) = true := by simpa using h0
    have hin : T.inB z = false := by unfold TaS.inB; simp; omega
    have HE : Hid (StIs T z w (.returned (.tuple #[.int .i64 0, .bool false])) w) := Lib.hid (by unfold StIs; rw [hin, TaS.st_out hin]; exact ⟨rfl, rfl⟩)
    clear hrd hc hw h0 hin
    obtain ⟨n, hn⟩ : ∃ n, T.st.length = n := ⟨_, rfl⟩
    rw [hn] at y0
    clear hn
    go_enter Tryd.func11, Tryd.ntmps11
    go_wp2_with fail
    go_ret2
    exact HE.out
  · obtain ⟨k, rfl⟩ : ∃ k : Nat, z = (k : Int) := ⟨z.toNat, by omega⟩
    clear h0
    by_cases hk : k < T.st.length
    · have hin : T.inB (k : Int) = true := TaS.in_iff.2 ⟨by omega, by omega⟩
      have hst := TaS.st_in hin (show (k : Int).toNat < T.st.length by simpa using hk)
      simp only [Int.toNat_natCast] at hst
      have HE : Hid (StIs T (k : Int) w (.returned (.tuple #[.int .i64 T.st[k], .bool true])) w) := Lib.hid (by unfold StIs; rw [hin, hst]; exact ⟨rfl, rfl⟩)
      obtain ⟨b, o, e, hbl, hcell⟩ := hrd (by rw [iCells_len]; omega)
      have e := Option.some.inj e
      injection e with e1 e2
      subst e1 e2
      have c0 := i_cells hcell k hk
      obtain ⟨x, hx⟩ : ∃ x, T.st[k] = x := ⟨_, rfl⟩
      rw [hx] at c0 HE
      rw [Nat.zero_add] at c0
      obtain ⟨n, hn⟩ : ∃ n, T.st.length = n := ⟨_, rfl⟩
      rw [hn] at y0 hk hn24
      have d1 : decide ((n : Int) ≤ (k : Int)) = false := by simp; omega
      clear hcell hx hc hw hin hst hn
      go_enter Tryd.func11, Tryd.ntmps11
      go_wp2_with fail
      go_ret2
      exact HE.out
    · have hin : T.inB (k : Int) = false := by unfold TaS.inB; simp; omega
      have HE : Hid (StIs T (k : Int) w (.returned (.tuple #[.int .i64 0, .bool false])) w) := Lib.hid (by unfold StIs; rw [hin, TaS.st_out hin]; exact ⟨rfl, rfl⟩)
      obtain ⟨n, hn⟩ : ∃ n, T.st.length = n := ⟨_, rfl⟩
      rw [hn] at y0 hk hn24
      have hk' : n ≤ k := by omega
      clear hrd hc hw hin hn hk
      go_enter Tryd.func11, Tryd.ntmps11
      go_wp2_with fail
      go_ret2
      exact HE.out
theorem get_at {l : List Int} {k : Nat} (hk : k < l.length) : l.getD k 0 = l[k] := by
  rw [List.getD_eq_getElem?_getD, List.getElem?_eq_getElem hk]
  rfl
theorem lastK_step (l : List Int) (z : Int) {k : Nat} (hk : k < l.length) : TaS.lastK l z (k + 1) = if l[k] = z then k else TaS.lastK l z k := by
  conv => lhs; unfold TaS.lastK
  rw [List.getD_eq_getElem?_getD, List.getElem?_eq_getElem hk]
  rfl
set_option maxHeartbeats 1000000 in
theorem rtlast_at (z : Int) (h : RtF G w rt T) (hd : T.done.length ≤ 100000) : Calls Tryd.prog 30 #[.pointer (some ⟨rt, 0, none⟩), .int .i64 z] w (IntIs (T.lastN z) w) := by
  have HS := Lib.hid (rtstate_at z h)
  obtain ⟨sb, c, vr, vd, hc, _, _, _, _, _, hw⟩ := h
  obtain ⟨A, cd, rfl, _, _, _⟩ := hc.d.form
  have HR := Lib.hid hc.d.rd
  obtain ⟨_, _, y2⟩ := hc.cells
  have HLN := Lib.hid (show T.lastN z = if T.stA z = 2 then (TaS.lastK T.done z T.done.length : Int) else -1 from rfl)
  obtain ⟨L, hL⟩ : ∃ l, T.done = l := ⟨_, rfl⟩
  rw [hL] at HR y2 hd HLN
  obtain ⟨n, hn⟩ : ∃ n, L.length = n := ⟨_, rfl⟩
  have HN := Lib.hid hn
  rw [hn] at y2 hd HLN
  obtain ⟨s, hs⟩ : ∃ s, T.stA z = s := ⟨_, rfl⟩
  unfold StIs at HS
  rw [hs] at HS HLN
  clear hc hw hL hn hs
  go_enter Tryd.func30, Tryd.ntmps30
  go_wp2_with fail
  refine HS.out.mono ?_
  rintro r w' ⟨rfl, rfl⟩
  by_cases h2 : s = 2
  · have HE : Hid (T.lastN z = (TaS.lastK L z n : Int)) := Lib.hid (by rw [HLN.out, if_pos h2])
    have q : (s != 2) = false := by simp [h2]
    clear h2 HLN
    go_wp2_with fail
    obtain ⟨wo, rfl⟩ : ∃ wo : World, wo = w := ⟨_, rfl⟩
    clear q
    go_loopg [7, 8] n (fun q x y wr => ∃ k : Nat, k ≤ n ∧ q = n - k ∧ x = .int .i64 (TaS.lastK L z k : Int) ∧ y = .int .i64 (k : Int) ∧ wr = wo)
    case atStart => exact ⟨0, by omega, by omega, rfl, rfl, rfl⟩
    case round =>
      obtain ⟨k, hk, hq, rfl, rfl, rfl⟩ := hrel
      have HQ := Lib.hid hq
      clear hq
      by_cases hlt : k < n
      · have hkl : k < L.length := by rw [HN.out]; exact hlt
        obtain ⟨b, o, rfl, hbl, hcell⟩ := HR.out (by rw [iCells_len]; omega)
        have c0 := i_cells hcell k hkl
        have HST := Lib.hid (lastK_step L z hkl)
        obtain ⟨x, hx⟩ : ∃ x, L[k] = x := ⟨_, rfl⟩
        rw [hx] at c0 HST
        obtain ⟨a, ha⟩ : ∃ a, TaS.lastK L z k = a := ⟨_, rfl⟩
        rw [ha] at HST ⊢
        clear hcell hx hkl ha
        by_cases he : x = z
        · have HST2 : Hid (TaS.lastK L z (k + 1) = k) := Lib.hid (by rw [HST.out, if_pos he])
          have q : (x == z) = true := by simpa using he
          clear he HST
          go_wp2_with fail
          go_roundg (n - (k + 1))
          case rel => exact ⟨k + 1, by omega, rfl, by rw [HST2.out], by go_num, rfl⟩
          case measure => have := HQ.out; omega
        · have HST2 : Hid (TaS.lastK L z (k + 1) = a) := Lib.hid (by rw [HST.out, if_neg he])
          have q : (x == z) = false := by simpa using he
          clear he HST
          go_wp2_with fail
          go_roundg (n - (k + 1))
          case rel => exact ⟨k + 1, by omega, rfl, by rw [HST2.out], by go_num, rfl⟩
          case measure => have := HQ.out; omega
      · obtain rfl : k = n := by omega
        go_wp2_with fail
        go_ret
        exact ⟨ret_int HE.out.symm, rfl⟩
  · have HE : Hid (T.lastN z = -1) := Lib.hid (by rw [HLN.out, if_neg h2])
    have q : (s != 2) = true := by simpa using h2
    clear h2 HLN
    go_wp2_with fail
    go_ret
    exact ⟨ret_int HE.out.symm, rfl⟩
/-- A number of 32 bits, the world as it was. -/
def U32Is (n : Nat) (w : World) (r : Ending) (w' : World) : Prop := r = .returned (.int .u32 (n : Int)) ∧ w = w'
set_option maxHeartbeats 1000000 in
theorem rtage_at (z : Int) (h : RtF G w rt T) (hd : T.done.length ≤ 100000) : Calls Tryd.prog 13 #[.pointer (some ⟨rt, 0, none⟩), .int .i64 z] w (U32Is (T.ageN z) w) := by
  have HS := Lib.hid (rtlast_at z h hd)
  obtain ⟨sb, c, vr, vd, hc, _, _, _, _, _, hw⟩ := h
  obtain ⟨A, cd, rfl, _, _, _⟩ := hc.d.form
  obtain ⟨_, _, y2⟩ := hc.cells
  have HDN := Lib.hid (hw.done z)
  have HA := Lib.hid (show T.ageN z = if T.stA z = 2 then T.done.length - 1 - TaS.lastK T.done z T.done.length else 0 from rfl)
  have HL := Lib.hid (show T.lastN z = if T.stA z = 2 then (TaS.lastK T.done z T.done.length : Int) else -1 from rfl)
  by_cases h2 : T.stA z = 2
  · have hm := TaS.mem_get (hw.done z h2)
    have hlt : TaS.lastK T.done z T.done.length < T.done.length := TaS.lastK_lt _ _ _ (by obtain ⟨i, hi, _⟩ := hm; omega)
    rw [if_pos h2] at HA HL
    obtain ⟨a, ha⟩ : ∃ a, TaS.lastK T.done z T.done.length = a := ⟨_, rfl⟩
    rw [ha] at hlt HA HL
    rw [HL.out] at HS
    obtain ⟨n, hn⟩ : ∃ n, T.done.length = n := ⟨_, rfl⟩
    rw [hn] at y2 hd hlt HA
    have HE : Hid (U32Is (T.ageN z) w (.returned (.int .u32 ((n : Int) - 1 - (a : Int)))) w) := Lib.hid ⟨by rw [HA.out, show ((n - 1 - a : Nat) : Int) = (n : Int) - 1 - (a : Int) by omega], rfl⟩
    have w1 : IntKind.i64.wrap ((n : Int) - 1) = (n : Int) - 1 := IntWalk.i64_in _ (by omega)
    have w2 : IntKind.i64.wrap ((n : Int) - 1 - (a : Int)) = (n : Int) - 1 - (a : Int) := IntWalk.i64_in _ (by omega)
    have w3 : IntKind.u32.wrap ((n : Int) - 1 - (a : Int)) = (n : Int) - 1 - (a : Int) := by
      rw [IntKind.wrap_u32]
      exact Int.emod_eq_of_lt (by omega) (by omega)
    clear hc hw h2 hm ha hn HA HL HDN hlt
    go_enter Tryd.func13, Tryd.ntmps13
    go_wp2_with fail
    refine HS.out.mono ?_
    rintro r w' ⟨rfl, rfl⟩
    go_wp2_with fail
    go_ret
    exact HE.out
  · rw [if_neg h2] at HA HL
    rw [HL.out] at HS
    have HE : Hid (U32Is (T.ageN z) w (.returned (.int .u32 0)) w) := Lib.hid ⟨by rw [HA.out]; rfl, rfl⟩
    clear hc hw h2 HA HL HDN
    go_enter Tryd.func13, Tryd.ntmps13
    go_wp2_with fail
    refine HS.out.mono ?_
    rintro r w' ⟨rfl, rfl⟩
    go_wp2_with fail
    go_ret
    exact HE.out
/-- A row of numbers of the call's own. -/
def IntsIs (l : List Int) (w : World) (r : Ending) (w' : World) : Prop := ∃ v, r = .returned v ∧ OwnK w' w.heap.size 3 1 v l.length (iCells l) ∧ Below w.heap.size w w'
set_option maxHeartbeats 2000000 in
theorem rtclosed_at (h : RtF G w rt T) (hd : T.done.length ≤ 100000) : Calls Tryd.prog 17 #[.pointer (some ⟨rt, 0, none⟩)] w (IntsIs T.closedL w) := by
  have HLA : Hid (∀ z u, Below w.heap.size w u → Calls Tryd.prog 30 #[.pointer (some ⟨rt, 0, none⟩), .int .i64 z] u (IntIs (T.lastN z) u)) := Lib.hid (fun z u hu => rtlast_at z (h.up hu) hd)
  obtain ⟨sb, c, vr, vd, hc, _, _, _, _, _, hw⟩ := h
  obtain ⟨A, cd, rfl, _, _, _⟩ := hc.d.form
  have HR := Lib.hid hc.d.rd
  have HY : Hid (∀ u, Below w.heap.size w u → u.cell? ⟨rt, 2, none⟩ = some (.slice A T.done.length cd)) := Lib.hid (fun u hu => (hc.up hu).cells.2.2)
  have HCS := Lib.hid (fun k => TaS.closed_step T k)
  have HCK := Lib.hid (fun k => TaS.closed_len T k)
  have HCL : Hid (TaS.closedL T = T.closedK T.done.length) := Lib.hid rfl
  obtain ⟨L, hL⟩ : ∃ l, T.done = l := ⟨_, rfl⟩
  rw [hL] at HR HY hd HCS HCL
  obtain ⟨n, hn⟩ : ∃ n, L.length = n := ⟨_, rfl⟩
  have HN := Lib.hid hn
  rw [hn] at HY hd HCL
  clear hc hw hL hn
  have HO1 : Hid (OwnK (w.alloc (.cells #[] 3)) w.heap.size 3 1 (.slice (some ⟨w.heap.size, 0, none⟩) 0 0) 0 []) := Lib.hid (OwnK.new w w.heap.size 3 1 0 [] (Nat.le_refl _) rfl (by omega))
  have HB1 : Hid (Below w.heap.size w (w.alloc (.cells #[] 3))) := Lib.hid ((Below.refl _ _).alloc (Nat.le_refl _) _)
  go_enter Tryd.func17, Tryd.ntmps17
  go_wp2_with fail
  go_loopg [3, 4] n (fun q u y wr => ∃ (k m : Nat), k ≤ n ∧ q = n - k ∧ y = .int .i64 (k : Int) ∧ (T.closedK k).length = m ∧ m ≤ k ∧ OwnK wr w.heap.size 3 1 u m (iCells (T.closedK k)) ∧ Below w.heap.size w wr)
  case atStart => exact ⟨0, 0, by omega, by omega, rfl, rfl, by omega, HO1.out, HB1.out⟩
  case round =>
    clear HO1 HB1
    obtain ⟨k, m, hk, hq, rfl, hl, hmk, ho, hb⟩ := hrel
    have HQ := Lib.hid hq
    have HL := Lib.hid hl
    have HO := Lib.hid ho
    have HB := Lib.hid hb
    have y2 := HY.out _ hb
    clear hq hl ho hb
    by_cases hlt : k < n
    · have hkl : k < L.length := by rw [HN.out]; exact hlt
      obtain ⟨b, o, rfl, hbl, hcell⟩ := HR.out.below HB.out (by rw [iCells_len]; omega)
      have c0 := i_cells hcell k hkl
      have HU := Lib.hid (HCS.out k)
      rw [get_at hkl] at HU
      obtain ⟨x, hx⟩ : ∃ x, L[k] = x := ⟨_, rfl⟩
      rw [hx] at c0 HU
      have HLX := Lib.hid (HLA.out x wr HB.out)
      obtain ⟨ln, hln⟩ : ∃ a, T.lastN x = a := ⟨_, rfl⟩
      rw [hln] at HU HLX
      obtain ⟨lst, hlst⟩ : ∃ lst, T.closedK k = lst := ⟨_, rfl⟩
      rw [hlst] at HL HO HU
      clear hcell hx hkl hln hlst
      go_wp2_with fail
      refine HLX.out.mono ?_
      rintro r w' ⟨rfl, rfl⟩
      clear HLX
      by_cases he : ln = (k : Int)
      · have HU2 : Hid (T.closedK (k + 1) = lst ++ [x]) := Lib.hid (by rw [HU.out, if_pos he])
        have q : (ln == (k : Int)) = true := by simpa using he
        obtain ⟨w7, hw7⟩ : ∃ w7, wr.alloc (.cells #[.int .i64 x] 3) = w7 := ⟨_, rfl⟩
        have hb7 : Below wr.heap.size wr w7 := by rw [← hw7]; exact (Below.refl _ _).alloc (Nat.le_refl _) _
        have HO7 := Lib.hid (HO.out.up hb7)
        have HB7 := Lib.hid (below_all HB.out hb7)
        have HR7 : Hid (RdV w7 w7.heap.size (some ⟨wr.heap.size, 0, none⟩) [.int .i64 x]) := Lib.hid (by rw [← hw7]; exact row_rd wr [.int .i64 x])
        clear he HU HO HB hb7
        go_wp2_with (first
          | (at_builtin; refine appP _ rfl (.tmp 26) (.tmp 34) 43 3 (.int .i64 0) 1 8 rfl Tryd.underlying43 intInfo rfl (by decide) (by decide) w.heap.size m 1 1 u3 (iCells lst) [.int .i64 x] (some ⟨wr.heap.size, 0, none⟩) rfl HO7.out rfl rfl HR7.out (fun e => by cases e) (fun u hu => by simp only [List.mem_cons, List.not_mem_nil, or_false] at hu; rcases hu with rfl; rfl) (by omega) HB7.out.size ?_; intro v8 w8 ho hg; have HO8 : Hid (OwnK w8 w.heap.size 3 1 v8 (m + 1) (iCells (lst ++ [x]))) := Lib.hid (by simpa [iCells] using ho); have HB8 := Lib.hid (below_grown HB7.out hg (fun e he => HO7.out.own e he)); clear ho hg)
          | fail)
        go_roundg (n - (k + 1))
        case rel => exact ⟨k + 1, m + 1, by omega, rfl, by go_num, by rw [HU2.out, List.length_append, HL.out]; rfl, by omega, by rw [HU2.out]; exact HO8.out, HB8.out⟩
        case measure => have := HQ.out; omega
      · have HU2 : Hid (T.closedK (k + 1) = lst) := Lib.hid (by rw [HU.out, if_neg he, List.append_nil])
        have q : (ln == (k : Int)) = false := by simpa using he
        clear he HU
        go_wp2_with fail
        go_roundg (n - (k + 1))
        case rel => exact ⟨k + 1, m, by omega, rfl, by go_num, by rw [HU2.out]; exact HL.out, by omega, by rw [HU2.out]; exact HO.out, HB.out⟩
        case measure => have := HQ.out; omega
    · obtain rfl : k = n := by omega
      have HE : Hid (IntsIs T.closedL w (.returned u3) wr) := Lib.hid ⟨u3, rfl, by rw [HCL.out, HL.out]; exact HO.out, HB.out⟩
      clear HO
      go_wp2_with fail
      go_ret
      exact HE.out
end
end Go.Proofs.YteoohafadijkmaaDoor
