/-
  platelayerlaw11.ValidDoes answers true.
-/
import Derived.Test.YtajccmkdfmpapaaDoorVaT
import Derived.Test.YtajccmkdfmpapaaDoorVaF
import Derived.Test.YtajccmkdfmpapaaDoorCodeA
namespace Go.Proofs.YtajccmkdfmpapaaDoor
open Go.RowKit

/-- Both sets, and an act, of a call's own. -/
structure VD (w0 w : World) (sb rb rs x : Nat) (S R : VaS) (d : Int) (a : Nat) : Prop where
  m : VaM w sb rb S
  r : RvM w rs R
  ac : Blk w x 39 [.int .i64 d, .int .u32 (a : Int)]
  lt : w0.heap.size ≤ rb ∧ sb < rs ∧ rs < x
  old : Below w0.heap.size w0 w
structure VL (w0 w : World) (sb rb rs : Nat) (S : VaS) : Prop where
  m : VaM w sb rb S
  r : RvM w rs S
  lt : w0.heap.size ≤ rb ∧ sb < rs
  old : Below w0.heap.size w0 w
section
variable {w0 w w' : World} {sb rb rs x : Nat} {S R S' : VaS} {d : Int} {a : Nat}
theorem VD.up (h : VD w0 w sb rb rs x S R d a) (hb : Below w.heap.size w w') : VD w0 w' sb rb rs x S R d a := ⟨h.m.up hb, h.r.up hb, h.ac.up hb (lt_of_block h.ac), h.lt, below_all h.old hb⟩
theorem VD.drew (h : VD w0 w sb rb rs x S R d a) : VD w0 w.drew sb rb rs x S R d a := h.up (Below.refl _ _).drew
theorem VD.cells (h : VD w0 w sb rb rs x S R d a) : w.cell? ⟨x, 0, none⟩ = some (.int .i64 d) ∧ w.cell? ⟨x, 1, none⟩ = some (.int .u32 (a : Int)) := ⟨h.ac.cell 0 (by simp), h.ac.cell 1 (by simp)⟩
theorem VD.do {b : Bool} {r : Ending} (h : VD w0 w sb rb rs x S R d a) (ht : VaTo sb rb b S' w r w') : VD w0 w' sb rb rs x S' R d a := by
  have := h.lt
  have := h.m.lt
  exact ⟨ht.2.1, h.r.keep ht.2.2 (fun k e => by omega), ht.2.2.blk h.ac (by omega), h.lt, h.old.trans (ht.2.2.below h.old.size (fun k e => by omega))⟩
theorem VD.own {b : Bool} {r : Ending} (h : VD w0 w sb rb rs x S R d a) (ht : RvTo rs b S' w r w') : VD w0 w' sb rb rs x S S' d a := by
  have := h.lt
  have := h.m.lt
  exact ⟨h.m.keep ht.2.2 (by omega) (by omega), ht.2.1, ht.2.2.blk h.ac (by omega), h.lt, h.old.trans (ht.2.2.below h.old.size (fun k e => by omega))⟩
theorem VD.vl (h : VD w0 w sb rb rs x S S d a) : VL w0 w sb rb rs S := ⟨h.m, h.r, ⟨h.lt.1, h.lt.2.1⟩, h.old⟩
theorem VL.up (h : VL w0 w sb rb rs S) (hb : Below w.heap.size w w') : VL w0 w' sb rb rs S := ⟨h.m.up hb, h.r.up hb, h.lt, below_all h.old hb⟩
theorem VD.new (h : VL w0 w sb rb rs S) (d : Int) (a : Nat) : VD w0 (w.alloc (.cells #[.int .i64 d, .int .u32 (a : Int)] 39)) sb rb rs w.heap.size S S d a := by
  have hb : Below w.heap.size w (w.alloc (.cells #[.int .i64 d, .int .u32 (a : Int)] 39)) := (Below.refl _ _).alloc (Nat.le_refl _) _
  exact ⟨h.m.up hb, h.r.up hb, heap_alloc_new w _, ⟨h.lt.1, h.lt.2, h.r.lt⟩, below_all h.old hb⟩
end
set_option maxHeartbeats 1600000 in
set_option maxRecDepth 100000 in
theorem vdoes_true {w : World} (hg : Gl w) (z p b : Int) (A : Option Addr) (m c : Nat) (l : List VAct) (hl : l.length = m) (hr : RdVA w A l) (key : Nat) (zone : Int) : Calls Tryd.prog 3 #[.agg #[.int .i64 z, .int .i64 p, .int .i64 b], .slice A m c, .int .u32 (key : Int), .int .i64 zone] w (BoolB true w) := by
  have HG := Lib.hid hg
  have HL := Lib.hid hl
  have HR := Lib.hid (hr.below (below_box w (.cells #[.int .i64 z, .int .i64 p, .int .i64 b] 23)))
  have HCB : Hid (∀ u, Below (w.alloc (.cells #[.int .i64 z, .int .i64 p, .int .i64 b] 23)).heap.size (w.alloc (.cells #[.int .i64 z, .int .i64 p, .int .i64 b] 23)) u → u.cell? ⟨w.heap.size, 0, none⟩ = some (.int .i64 z) ∧ u.cell? ⟨w.heap.size, 1, none⟩ = some (.int .i64 p) ∧ u.cell? ⟨w.heap.size, 2, none⟩ = some (.int .i64 b)) := Lib.hid (fun u hu => cell_box hu)
  have HW0 := Lib.hid (below_box w (.cells #[.int .i64 z, .int .i64 p, .int .i64 b] 23))
  obtain ⟨w0, hw0⟩ : ∃ u, w.alloc (.cells #[.int .i64 z, .int .i64 p, .int .i64 b] 23) = u := ⟨_, rfl⟩
  rw [hw0] at HR HCB HW0
  clear hl hr hg
  go_enter Tryd.func3, Tryd.ntmps3
  go_wp2_with fail
  refine (vaawake_true w0).mono ?_
  rintro r w1 ⟨rfl, hb⟩
  have HB1 := Lib.hid hb
  obtain ⟨x0, x1, x2⟩ := HCB.out _ hb
  clear hb hw0
  by_cases hmm : 300 < m
  · go_wp2_with fail
    go_ret
    exact ⟨rfl, below_all HW0.out HB1.out⟩
  go_wp2_with fail
  refine (vanew_at z p b w1).mono ?_
  rintro r w2 ⟨hb, h⟩
  have HB2 := Lib.hid (below_all HB1.out hb)
  have HBB2 := Lib.hid hb
  clear hb x0 x1 x2
  obtain ⟨x0, x1, x2⟩ := HCB.out _ HB2.out
  by_cases hrr : rightB z p b = true
  · rw [if_pos hrr] at h
    obtain ⟨sb, rb, hge, rfl, hm⟩ := h
    have HM2 := Lib.hid hm
    have hlt := hm.lt
    have hge' : w0.heap.size ≤ rb := Nat.le_trans HB1.out.size hge
    clear hm hge
    go_wp2_with fail
    refine (rvnew_at z p b w2).mono ?_
    rintro r w3 ⟨hb, h⟩
    rw [if_pos hrr] at h
    obtain ⟨rs, hge2, rfl, hm⟩ := h
    have HD3 : Hid (VL w0 w3 sb rb rs ⟨z, p, b, []⟩) := Lib.hid ⟨HM2.out.up hb, hm, ⟨hge', by omega⟩, below_all HB2.out hb⟩
    clear hb hm hge2 HM2 HB2 hlt hge' HB1 x0 x1 x2 HBB2
    go_wp2_with fail
    refine (code_nil _).mono ?_
    rintro r w4 ⟨rfl, hb⟩
    have HD4 := Lib.hid (HD3.out.up hb)
    clear hb HD3 hrr
    go_wp2_with fail
    go_loopg [46] m (fun q y wr => ∃ (i : Nat) (S : VaS), i ≤ m ∧ q = m - i ∧ y = .int .i64 i ∧ VL w0 wr sb rb rs S ∧ S.z = z ∧ S.p = p ∧ S.b = b)
    case atStart => exact ⟨0, _, by omega, by omega, rfl, HD4.out, rfl, rfl, rfl⟩
    case round =>
      clear HD4
      obtain ⟨i, S, hi, hq, rfl, hd, hz, hp, hbb⟩ := hrel
      have HQ := Lib.hid hq
      have HD := Lib.hid hd
      have HG0 : Hid (S.z = z ∧ S.p = p ∧ S.b = b) := Lib.hid ⟨hz, hp, hbb⟩
      clear hq hd hz hp hbb
      by_cases hlt : i < m
      · have hll : i < l.length := by rw [HL.out]; exact hlt
        obtain ⟨bl, o, rfl, hbl, hcell⟩ := (HR.out.below HD.out.old) (by omega)
        obtain ⟨c0, c1⟩ := hcell i hll
        obtain ⟨d, hd⟩ : ∃ d, l[i].d = d := ⟨_, rfl⟩
        obtain ⟨a, ha⟩ : ∃ a, l[i].a = a := ⟨_, rfl⟩
        rw [hd] at c0
        rw [ha] at c1
        clear hcell hd ha
        have hxn := VD.new HD.out d a
        obtain ⟨x, hx⟩ : ∃ x, wr.heap.size = x := ⟨_, rfl⟩
        obtain ⟨wa, hwa⟩ : ∃ wa, wr.alloc (.cells #[.int .i64 d, .int .u32 (a : Int)] 39) = wa := ⟨_, rfl⟩
        rw [hwa, hx] at hxn
        have HA := Lib.hid hxn
        have y0 := HA.out.cells.1
        have y1 := HA.out.cells.2
        clear hxn HD
        by_cases hd0 : d = 0
        · have q0 : (d == 0) = true := by simpa using hd0
          clear hd0
          go_wp2_with fail
          clear y0 y1
          refine wp_region_held_drew (S := fun u => u.cell? ⟨x, 1, none⟩ = some (.int .u32 (a : Int))) (by kernel_rfl) (HA.out.drew.cells.2) (fun hHeld => ?_)
          show wpAnyH _ _ _ _ _ 10 _ _ _
          refine wpAnyH_take (i := 0) (v := ?_) rfl (by kernel_rfl) (by kernel_rfl) (by kernel_rfl) (fun _ _ _ h => h) (Or.inl ⟨by rfl, ?_⟩) hHeld ?_
          rotate_left
          · intro u hSu
            obtain x1 := hSu
            go_simp
            try with_reducible rfl
          try simp only [Act.put, List.setIfInBounds_toArray, List.set_cons_zero, List.set_cons_succ, List.getElem_toArray, List.getElem_cons_zero, List.getElem_cons_succ]
          refine wpAnyH_take (i := 1) (v := ?_) rfl (by kernel_rfl) (by kernel_rfl) (by kernel_rfl) (fun _ _ _ h => h) (Or.inl ⟨by rfl, ?_⟩) hHeld ?_
          rotate_left
          · intro u hSu
            obtain x1 := hSu
            go_simp
            try with_reducible rfl
          try simp only [Act.put, List.setIfInBounds_toArray, List.set_cons_zero, List.set_cons_succ, List.getElem_toArray, List.getElem_cons_zero, List.getElem_cons_succ]
          refine wpAnyH_take (i := 2) (v := ?_) rfl (by kernel_rfl) (by kernel_rfl) (by kernel_rfl) (fun _ _ _ h => h) (Or.inl ⟨by rfl, ?_⟩) hHeld ?_
          rotate_left
          · intro u hSu
            obtain x1 := hSu
            go_simp
            try with_reducible rfl
          try simp only [Act.put, List.setIfInBounds_toArray, List.set_cons_zero, List.set_cons_succ, List.getElem_toArray, List.getElem_cons_zero, List.getElem_cons_succ]
          refine wpAnyH_take (i := 4) (v := ?_) rfl (by kernel_rfl) (by kernel_rfl) (by kernel_rfl) (fun _ _ _ h => h) (Or.inl ⟨by rfl, ?_⟩) hHeld ?_
          rotate_left
          · intro u hSu
            obtain x1 := hSu
            go_simp
            try with_reducible rfl
          try simp only [Act.put, List.setIfInBounds_toArray, List.set_cons_zero, List.set_cons_succ, List.getElem_toArray, List.getElem_cons_zero, List.getElem_cons_succ]
          refine wpAnyH_take (i := 5) (v := ?_) rfl (by kernel_rfl) (by kernel_rfl) (by kernel_rfl) (fun _ _ _ h => h) (Or.inl ⟨by rfl, ?_⟩) hHeld ?_
          rotate_left
          · intro u hSu
            obtain x1 := hSu
            go_simp
            try with_reducible rfl
          try simp only [Act.put, List.setIfInBounds_toArray, List.set_cons_zero, List.set_cons_succ, List.getElem_toArray, List.getElem_cons_zero, List.getElem_cons_succ]
          refine wpAnyH_take (i := 6) (v := ?_) rfl (by kernel_rfl) (by kernel_rfl) (by kernel_rfl) (fun _ _ _ h => h) (Or.inl ⟨by rfl, ?_⟩) hHeld ?_
          rotate_left
          · intro u hSu
            obtain x1 := hSu
            go_simp
            try with_reducible rfl
          try simp only [Act.put, List.setIfInBounds_toArray, List.set_cons_zero, List.set_cons_succ, List.getElem_toArray, List.getElem_cons_zero, List.getElem_cons_succ]
          refine wpAnyH_ready (rs := [3]) (by kernel_rfl) (by simp) ?_
          refine (AllReadyH.cons rfl (fun K hK => ?_) AllReadyH.nil)
          go_simp
          refine (vamark_at a HA.out.drew.m).mono ?_
          rintro r w4 h
          have HA4 := Lib.hid (HA.out.drew.do h)
          obtain ⟨rfl, _, _⟩ := h
          refine hK.out _ _ ?_ (fun hHeld2 => ?_)
          · exact HA4.out.cells.2
          clear hK K hHeld
          have hHeld := hHeld2
          clear hHeld2
          try simp only [Act.put, List.setIfInBounds_toArray, List.set_cons_zero, List.set_cons_succ, List.getElem_toArray, List.getElem_cons_zero, List.getElem_cons_succ]
          refine wpAnyH_ready (rs := [7]) (by kernel_rfl) (by simp) ?_
          refine (AllReadyH.cons rfl (fun K hK => ?_) AllReadyH.nil)
          go_simp
          refine (rvmark_at a HA4.out.r).mono ?_
          rintro r w5 h
          have HA5 := Lib.hid (HA4.out.own h)
          obtain ⟨rfl, _, _⟩ := h
          refine hK.out _ _ ?_ (fun hHeld2 => ?_)
          · exact HA5.out.cells.2
          clear hK K hHeld
          have hHeld := hHeld2
          clear hHeld2
          try simp only [Act.put, List.setIfInBounds_toArray, List.set_cons_zero, List.set_cons_succ, List.getElem_toArray, List.getElem_cons_zero, List.getElem_cons_succ]
          generalize S.markB a = bb
          obtain ⟨S', hS'⟩ : ∃ S', S.markS a = S' := ⟨_, rfl⟩
          rw [hS'] at HA5
          have HG : Hid (S'.z = z ∧ S'.p = p ∧ S'.b = b) := Lib.hid (by rw [← hS']; unfold VaS.markS; split <;> exact HG0.out)
          clear hS' HA HA4
          refine wpAnyH_take (i := 8) (v := ?_) rfl (by kernel_rfl) (by kernel_rfl) (by kernel_rfl) (fun _ _ _ h => h) (Or.inl ⟨by rfl, ?_⟩) hHeld ?_
          rotate_left
          · intro u hSu
            obtain x1 := hSu
            go_simp
            try with_reducible rfl
          try simp only [Act.put, List.setIfInBounds_toArray, List.set_cons_zero, List.set_cons_succ, List.getElem_toArray, List.getElem_cons_zero, List.getElem_cons_succ]
          refine wpAnyH_take (i := 9) (v := ?_) rfl (by kernel_rfl) (by kernel_rfl) (by kernel_rfl) (fun _ _ _ h => h) (Or.inl ⟨by rfl, ?_⟩) hHeld ?_
          rotate_left
          · intro u hSu
            obtain x1 := hSu
            go_simp
            try with_reducible rfl
          try simp only [Act.put, List.setIfInBounds_toArray, List.set_cons_zero, List.set_cons_succ, List.getElem_toArray, List.getElem_cons_zero, List.getElem_cons_succ]
          refine wpAnyH_done (by kernel_rfl) ?_ _
          have q9 : (bb == bb) = true := by simp
          go_wp2_with fail
          have hrr := HA5.out.r
          obtain ⟨⟨v9, hrc⟩, hwf⟩ := hrr
          obtain ⟨A9, c9, rfl, _, _, _⟩ := hrc.r.form
          have HSU := Lib.hid (fun u (hu : Below w5.heap.size w5 u) => HA5.out.up hu)
          have HRU : Hid (∀ u, Below w5.heap.size w5 u → u.cell? ⟨rs, 3, none⟩ = some (.slice A9 S'.L.length c9)) := Lib.hid (fun u hu => (hrc.up hu).cells.2.2.2)
          have HL1 : Hid (∀ n : In (fun u => Below w5.heap.size w5 u), Calls Tryd.prog 12 #[.pointer (some ⟨sb, 0, none⟩), .int .u32 (key : Int)] n.w (fun e w' => e = .returned (.bool (S'.liveB key)) ∧ Below n.w.heap.size n.w w')) := Lib.hid (fun n => valive_at key (HSU.out _ n.ok).m)
          have HL2 : Hid (∀ n : In (fun u => Below w5.heap.size w5 u), Calls Tryd.prog 13 #[.pointer (some ⟨rs, 0, none⟩), .int .u32 (key : Int)] n.w (fun e w' => e = .returned (.bool (S'.liveB key)) ∧ n.w = w')) := Lib.hid (fun n => rvlive_at key (HSU.out _ n.ok).r)
          have HL3 : Hid (∀ n : In (fun u => Below w5.heap.size w5 u), Calls Tryd.prog 12 #[.pointer (some ⟨sb, 0, none⟩), .int .u32 (a : Int)] n.w (fun e w' => e = .returned (.bool (S'.liveB a)) ∧ Below n.w.heap.size n.w w')) := Lib.hid (fun n => valive_at a (HSU.out _ n.ok).m)
          have HL4 : Hid (∀ n : In (fun u => Below w5.heap.size w5 u), Calls Tryd.prog 13 #[.pointer (some ⟨rs, 0, none⟩), .int .u32 (a : Int)] n.w (fun e w' => e = .returned (.bool (S'.liveB a)) ∧ n.w = w')) := Lib.hid (fun n => rvlive_at a (HSU.out _ n.ok).r)
          have HL5 : Hid (∀ n : In (fun u => Below w5.heap.size w5 u), Calls Tryd.prog 14 #[.pointer (some ⟨sb, 0, none⟩)] n.w (fun e w' => e = .returned (.int .i64 (S'.L.length : Int)) ∧ Below n.w.heap.size n.w w')) := Lib.hid (fun n => vatotal_at (HSU.out _ n.ok).m)
          have HCX : Hid (∀ n : In (fun u => Below w5.heap.size w5 u), n.w.cell? ⟨x, 1, none⟩ = some (.int .u32 (a : Int))) := Lib.hid (fun n => (HSU.out _ n.ok).cells.2)
          have HCR : Hid (∀ n : In (fun u => Below w5.heap.size w5 u), n.w.cell? ⟨rs, 3, none⟩ = some (.slice A9 S'.L.length c9)) := Lib.hid (fun n => HRU.out _ n.ok)
          have HUP : Hid (∀ {a b : World}, Below w5.heap.size w5 a → Below a.heap.size a b → Below w5.heap.size w5 b) := Lib.hid (fun h k => below_all h k)
          have hle := VaS.len_le hwf
          obtain ⟨n9, hn9⟩ : ∃ n, S'.L.length = n := ⟨_, rfl⟩
          obtain ⟨l1, hl1⟩ : ∃ l, S'.liveB key = l := ⟨_, rfl⟩
          obtain ⟨l2, hl2⟩ : ∃ l, S'.liveB a = l := ⟨_, rfl⟩
          rw [hn9] at HCR HL5 hle
          rw [hl1] at HL1 HL2
          rw [hl2] at HL3 HL4
          have q1 : (l1 != l1) = false := by simp
          have q2 : (l2 != l2) = false := by simp
          have q3 : ((n9 : Int) != (n9 : Int)) = false := by simp
          clear hrc hwf HRU hn9 hl1 hl2
          refine wp_region_in (fun u => Below w5.heap.size w5 u) (Below.refl _ _).drew (by kernel_rfl) (by kernel_rfl) (fun ne => ?_)
          have c1 := HCX.out
          have c3 := HCR.out
          repeat (go_big_quiet_step (first
            | (go_at_call 12; first | (with_reducible exact In.more HUP.out (HL1.out _)) | (with_reducible exact In.more HUP.out (HL3.out _)))
            | (go_at_call 13; first | (with_reducible exact In.same (HL2.out _)) | (with_reducible exact In.same (HL4.out _)))
            | (go_at_call 14; (with_reducible exact In.more HUP.out (HL5.out _)))))
          refine wpQuiet_nil ?_
          intro nq
          have HX6 := Lib.hid (HSU.out _ nq.ok)
          clear c1 c3 HSU HCX HCR HL1 HL2 HL3 HL4 HL5 HA5 HUP
          go_wp2_with fail
          go_roundg (m - (i + 1))
          case rel => exact ⟨i + 1, S', by omega, rfl, by go_num, HX6.out.vl, HG.out⟩
          case measure => have := HQ.out; omega
        · have q0 : (d == 0) = false := by simpa using hd0
          by_cases hd1 : d = 1
          · have q1 : (d == 1) = true := by simpa using hd1
            clear hd1 hd0
            go_wp2_with fail
            clear y0 y1
            refine wp_region_held_drew (S := fun u => u.cell? ⟨x, 1, none⟩ = some (.int .u32 (a : Int))) (by kernel_rfl) (HA.out.drew.cells.2) (fun hHeld => ?_)
            show wpAnyH _ _ _ _ _ 10 _ _ _
            refine wpAnyH_take (i := 0) (v := ?_) rfl (by kernel_rfl) (by kernel_rfl) (by kernel_rfl) (fun _ _ _ h => h) (Or.inl ⟨by rfl, ?_⟩) hHeld ?_
            rotate_left
            · intro u hSu
              obtain x1 := hSu
              go_simp
              try with_reducible rfl
            try simp only [Act.put, List.setIfInBounds_toArray, List.set_cons_zero, List.set_cons_succ, List.getElem_toArray, List.getElem_cons_zero, List.getElem_cons_succ]
            refine wpAnyH_take (i := 1) (v := ?_) rfl (by kernel_rfl) (by kernel_rfl) (by kernel_rfl) (fun _ _ _ h => h) (Or.inl ⟨by rfl, ?_⟩) hHeld ?_
            rotate_left
            · intro u hSu
              obtain x1 := hSu
              go_simp
              try with_reducible rfl
            try simp only [Act.put, List.setIfInBounds_toArray, List.set_cons_zero, List.set_cons_succ, List.getElem_toArray, List.getElem_cons_zero, List.getElem_cons_succ]
            refine wpAnyH_take (i := 2) (v := ?_) rfl (by kernel_rfl) (by kernel_rfl) (by kernel_rfl) (fun _ _ _ h => h) (Or.inl ⟨by rfl, ?_⟩) hHeld ?_
            rotate_left
            · intro u hSu
              obtain x1 := hSu
              go_simp
              try with_reducible rfl
            try simp only [Act.put, List.setIfInBounds_toArray, List.set_cons_zero, List.set_cons_succ, List.getElem_toArray, List.getElem_cons_zero, List.getElem_cons_succ]
            refine wpAnyH_take (i := 4) (v := ?_) rfl (by kernel_rfl) (by kernel_rfl) (by kernel_rfl) (fun _ _ _ h => h) (Or.inl ⟨by rfl, ?_⟩) hHeld ?_
            rotate_left
            · intro u hSu
              obtain x1 := hSu
              go_simp
              try with_reducible rfl
            try simp only [Act.put, List.setIfInBounds_toArray, List.set_cons_zero, List.set_cons_succ, List.getElem_toArray, List.getElem_cons_zero, List.getElem_cons_succ]
            refine wpAnyH_take (i := 5) (v := ?_) rfl (by kernel_rfl) (by kernel_rfl) (by kernel_rfl) (fun _ _ _ h => h) (Or.inl ⟨by rfl, ?_⟩) hHeld ?_
            rotate_left
            · intro u hSu
              obtain x1 := hSu
              go_simp
              try with_reducible rfl
            try simp only [Act.put, List.setIfInBounds_toArray, List.set_cons_zero, List.set_cons_succ, List.getElem_toArray, List.getElem_cons_zero, List.getElem_cons_succ]
            refine wpAnyH_take (i := 6) (v := ?_) rfl (by kernel_rfl) (by kernel_rfl) (by kernel_rfl) (fun _ _ _ h => h) (Or.inl ⟨by rfl, ?_⟩) hHeld ?_
            rotate_left
            · intro u hSu
              obtain x1 := hSu
              go_simp
              try with_reducible rfl
            try simp only [Act.put, List.setIfInBounds_toArray, List.set_cons_zero, List.set_cons_succ, List.getElem_toArray, List.getElem_cons_zero, List.getElem_cons_succ]
            refine wpAnyH_ready (rs := [3]) (by kernel_rfl) (by simp) ?_
            refine (AllReadyH.cons rfl (fun K hK => ?_) AllReadyH.nil)
            go_simp
            refine (vaunmark_at a HA.out.drew.m).mono ?_
            rintro r w4 h
            have HA4 := Lib.hid (HA.out.drew.do h)
            obtain ⟨rfl, _, _⟩ := h
            refine hK.out _ _ ?_ (fun hHeld2 => ?_)
            · exact HA4.out.cells.2
            clear hK K hHeld
            have hHeld := hHeld2
            clear hHeld2
            try simp only [Act.put, List.setIfInBounds_toArray, List.set_cons_zero, List.set_cons_succ, List.getElem_toArray, List.getElem_cons_zero, List.getElem_cons_succ]
            refine wpAnyH_ready (rs := [7]) (by kernel_rfl) (by simp) ?_
            refine (AllReadyH.cons rfl (fun K hK => ?_) AllReadyH.nil)
            go_simp
            refine (rvunmark_at a HA4.out.r).mono ?_
            rintro r w5 h
            have HA5 := Lib.hid (HA4.out.own h)
            obtain ⟨rfl, _, _⟩ := h
            refine hK.out _ _ ?_ (fun hHeld2 => ?_)
            · exact HA5.out.cells.2
            clear hK K hHeld
            have hHeld := hHeld2
            clear hHeld2
            try simp only [Act.put, List.setIfInBounds_toArray, List.set_cons_zero, List.set_cons_succ, List.getElem_toArray, List.getElem_cons_zero, List.getElem_cons_succ]
            generalize S.liveB a = bb
            obtain ⟨S', hS'⟩ : ∃ S', S.unmarkS a = S' := ⟨_, rfl⟩
            rw [hS'] at HA5
            have HG : Hid (S'.z = z ∧ S'.p = p ∧ S'.b = b) := Lib.hid (by rw [← hS']; exact HG0.out)
            clear hS' HA HA4
            refine wpAnyH_take (i := 8) (v := ?_) rfl (by kernel_rfl) (by kernel_rfl) (by kernel_rfl) (fun _ _ _ h => h) (Or.inl ⟨by rfl, ?_⟩) hHeld ?_
            rotate_left
            · intro u hSu
              obtain x1 := hSu
              go_simp
              try with_reducible rfl
            try simp only [Act.put, List.setIfInBounds_toArray, List.set_cons_zero, List.set_cons_succ, List.getElem_toArray, List.getElem_cons_zero, List.getElem_cons_succ]
            refine wpAnyH_take (i := 9) (v := ?_) rfl (by kernel_rfl) (by kernel_rfl) (by kernel_rfl) (fun _ _ _ h => h) (Or.inl ⟨by rfl, ?_⟩) hHeld ?_
            rotate_left
            · intro u hSu
              obtain x1 := hSu
              go_simp
              try with_reducible rfl
            try simp only [Act.put, List.setIfInBounds_toArray, List.set_cons_zero, List.set_cons_succ, List.getElem_toArray, List.getElem_cons_zero, List.getElem_cons_succ]
            refine wpAnyH_done (by kernel_rfl) ?_ _
            have q9 : (bb == bb) = true := by simp
            go_wp2_with fail
            have hrr := HA5.out.r
            obtain ⟨⟨v9, hrc⟩, hwf⟩ := hrr
            obtain ⟨A9, c9, rfl, _, _, _⟩ := hrc.r.form
            have HSU := Lib.hid (fun u (hu : Below w5.heap.size w5 u) => HA5.out.up hu)
            have HRU : Hid (∀ u, Below w5.heap.size w5 u → u.cell? ⟨rs, 3, none⟩ = some (.slice A9 S'.L.length c9)) := Lib.hid (fun u hu => (hrc.up hu).cells.2.2.2)
            have HL1 : Hid (∀ n : In (fun u => Below w5.heap.size w5 u), Calls Tryd.prog 12 #[.pointer (some ⟨sb, 0, none⟩), .int .u32 (key : Int)] n.w (fun e w' => e = .returned (.bool (S'.liveB key)) ∧ Below n.w.heap.size n.w w')) := Lib.hid (fun n => valive_at key (HSU.out _ n.ok).m)
            have HL2 : Hid (∀ n : In (fun u => Below w5.heap.size w5 u), Calls Tryd.prog 13 #[.pointer (some ⟨rs, 0, none⟩), .int .u32 (key : Int)] n.w (fun e w' => e = .returned (.bool (S'.liveB key)) ∧ n.w = w')) := Lib.hid (fun n => rvlive_at key (HSU.out _ n.ok).r)
            have HL3 : Hid (∀ n : In (fun u => Below w5.heap.size w5 u), Calls Tryd.prog 12 #[.pointer (some ⟨sb, 0, none⟩), .int .u32 (a : Int)] n.w (fun e w' => e = .returned (.bool (S'.liveB a)) ∧ Below n.w.heap.size n.w w')) := Lib.hid (fun n => valive_at a (HSU.out _ n.ok).m)
            have HL4 : Hid (∀ n : In (fun u => Below w5.heap.size w5 u), Calls Tryd.prog 13 #[.pointer (some ⟨rs, 0, none⟩), .int .u32 (a : Int)] n.w (fun e w' => e = .returned (.bool (S'.liveB a)) ∧ n.w = w')) := Lib.hid (fun n => rvlive_at a (HSU.out _ n.ok).r)
            have HL5 : Hid (∀ n : In (fun u => Below w5.heap.size w5 u), Calls Tryd.prog 14 #[.pointer (some ⟨sb, 0, none⟩)] n.w (fun e w' => e = .returned (.int .i64 (S'.L.length : Int)) ∧ Below n.w.heap.size n.w w')) := Lib.hid (fun n => vatotal_at (HSU.out _ n.ok).m)
            have HCX : Hid (∀ n : In (fun u => Below w5.heap.size w5 u), n.w.cell? ⟨x, 1, none⟩ = some (.int .u32 (a : Int))) := Lib.hid (fun n => (HSU.out _ n.ok).cells.2)
            have HCR : Hid (∀ n : In (fun u => Below w5.heap.size w5 u), n.w.cell? ⟨rs, 3, none⟩ = some (.slice A9 S'.L.length c9)) := Lib.hid (fun n => HRU.out _ n.ok)
            have HUP : Hid (∀ {a b : World}, Below w5.heap.size w5 a → Below a.heap.size a b → Below w5.heap.size w5 b) := Lib.hid (fun h k => below_all h k)
            have hle := VaS.len_le hwf
            obtain ⟨n9, hn9⟩ : ∃ n, S'.L.length = n := ⟨_, rfl⟩
            obtain ⟨l1, hl1⟩ : ∃ l, S'.liveB key = l := ⟨_, rfl⟩
            obtain ⟨l2, hl2⟩ : ∃ l, S'.liveB a = l := ⟨_, rfl⟩
            rw [hn9] at HCR HL5 hle
            rw [hl1] at HL1 HL2
            rw [hl2] at HL3 HL4
            have q1 : (l1 != l1) = false := by simp
            have q2 : (l2 != l2) = false := by simp
            have q3 : ((n9 : Int) != (n9 : Int)) = false := by simp
            clear hrc hwf HRU hn9 hl1 hl2
            refine wp_region_in (fun u => Below w5.heap.size w5 u) (Below.refl _ _).drew (by kernel_rfl) (by kernel_rfl) (fun ne => ?_)
            have c1 := HCX.out
            have c3 := HCR.out
            repeat (go_big_quiet_step (first
              | (go_at_call 12; first | (with_reducible exact In.more HUP.out (HL1.out _)) | (with_reducible exact In.more HUP.out (HL3.out _)))
              | (go_at_call 13; first | (with_reducible exact In.same (HL2.out _)) | (with_reducible exact In.same (HL4.out _)))
              | (go_at_call 14; (with_reducible exact In.more HUP.out (HL5.out _)))))
            refine wpQuiet_nil ?_
            intro nq
            have HX6 := Lib.hid (HSU.out _ nq.ok)
            clear c1 c3 HSU HCX HCR HL1 HL2 HL3 HL4 HL5 HA5 HUP
            go_wp2_with fail
            go_roundg (m - (i + 1))
            case rel => exact ⟨i + 1, S', by omega, rfl, by go_num, HX6.out.vl, HG.out⟩
            case measure => have := HQ.out; omega
          · have q1 : (d == 1) = false := by simpa using hd1
            clear hd1 hd0
            go_wp2_with fail
            clear y0 y1
            have HG := HG0
            obtain ⟨S', hS'⟩ : ∃ S', S = S' := ⟨_, rfl⟩
            have HA5 := HA
            rw [hS'] at HA5 HG
            clear hS' HA
            have hrr := HA5.out.r
            obtain ⟨⟨v9, hrc⟩, hwf⟩ := hrr
            obtain ⟨A9, c9, rfl, _, _, _⟩ := hrc.r.form
            have HSU := Lib.hid (fun u (hu : Below wa.heap.size wa u) => HA5.out.up hu)
            have HRU : Hid (∀ u, Below wa.heap.size wa u → u.cell? ⟨rs, 3, none⟩ = some (.slice A9 S'.L.length c9)) := Lib.hid (fun u hu => (hrc.up hu).cells.2.2.2)
            have HL1 : Hid (∀ n : In (fun u => Below wa.heap.size wa u), Calls Tryd.prog 12 #[.pointer (some ⟨sb, 0, none⟩), .int .u32 (key : Int)] n.w (fun e w' => e = .returned (.bool (S'.liveB key)) ∧ Below n.w.heap.size n.w w')) := Lib.hid (fun n => valive_at key (HSU.out _ n.ok).m)
            have HL2 : Hid (∀ n : In (fun u => Below wa.heap.size wa u), Calls Tryd.prog 13 #[.pointer (some ⟨rs, 0, none⟩), .int .u32 (key : Int)] n.w (fun e w' => e = .returned (.bool (S'.liveB key)) ∧ n.w = w')) := Lib.hid (fun n => rvlive_at key (HSU.out _ n.ok).r)
            have HL3 : Hid (∀ n : In (fun u => Below wa.heap.size wa u), Calls Tryd.prog 12 #[.pointer (some ⟨sb, 0, none⟩), .int .u32 (a : Int)] n.w (fun e w' => e = .returned (.bool (S'.liveB a)) ∧ Below n.w.heap.size n.w w')) := Lib.hid (fun n => valive_at a (HSU.out _ n.ok).m)
            have HL4 : Hid (∀ n : In (fun u => Below wa.heap.size wa u), Calls Tryd.prog 13 #[.pointer (some ⟨rs, 0, none⟩), .int .u32 (a : Int)] n.w (fun e w' => e = .returned (.bool (S'.liveB a)) ∧ n.w = w')) := Lib.hid (fun n => rvlive_at a (HSU.out _ n.ok).r)
            have HL5 : Hid (∀ n : In (fun u => Below wa.heap.size wa u), Calls Tryd.prog 14 #[.pointer (some ⟨sb, 0, none⟩)] n.w (fun e w' => e = .returned (.int .i64 (S'.L.length : Int)) ∧ Below n.w.heap.size n.w w')) := Lib.hid (fun n => vatotal_at (HSU.out _ n.ok).m)
            have HCX : Hid (∀ n : In (fun u => Below wa.heap.size wa u), n.w.cell? ⟨x, 1, none⟩ = some (.int .u32 (a : Int))) := Lib.hid (fun n => (HSU.out _ n.ok).cells.2)
            have HCR : Hid (∀ n : In (fun u => Below wa.heap.size wa u), n.w.cell? ⟨rs, 3, none⟩ = some (.slice A9 S'.L.length c9)) := Lib.hid (fun n => HRU.out _ n.ok)
            have HUP : Hid (∀ {a b : World}, Below wa.heap.size wa a → Below a.heap.size a b → Below wa.heap.size wa b) := Lib.hid (fun h k => below_all h k)
            have hle := VaS.len_le hwf
            obtain ⟨n9, hn9⟩ : ∃ n, S'.L.length = n := ⟨_, rfl⟩
            obtain ⟨l1, hl1⟩ : ∃ l, S'.liveB key = l := ⟨_, rfl⟩
            obtain ⟨l2, hl2⟩ : ∃ l, S'.liveB a = l := ⟨_, rfl⟩
            rw [hn9] at HCR HL5 hle
            rw [hl1] at HL1 HL2
            rw [hl2] at HL3 HL4
            have q1 : (l1 != l1) = false := by simp
            have q2 : (l2 != l2) = false := by simp
            have q3 : ((n9 : Int) != (n9 : Int)) = false := by simp
            clear hrc hwf HRU hn9 hl1 hl2
            refine wp_region_in (fun u => Below wa.heap.size wa u) (Below.refl _ _).drew (by kernel_rfl) (by kernel_rfl) (fun ne => ?_)
            have c1 := HCX.out
            have c3 := HCR.out
            repeat (go_big_quiet_step (first
              | (go_at_call 12; first | (with_reducible exact In.more HUP.out (HL1.out _)) | (with_reducible exact In.more HUP.out (HL3.out _)))
              | (go_at_call 13; first | (with_reducible exact In.same (HL2.out _)) | (with_reducible exact In.same (HL4.out _)))
              | (go_at_call 14; (with_reducible exact In.more HUP.out (HL5.out _)))))
            refine wpQuiet_nil ?_
            intro nq
            have HX6 := Lib.hid (HSU.out _ nq.ok)
            clear c1 c3 HSU HCX HCR HL1 HL2 HL3 HL4 HL5 HA5 HUP
            go_wp2_with fail
            go_roundg (m - (i + 1))
            case rel => exact ⟨i + 1, S', by omega, rfl, by go_num, HX6.out.vl, HG.out⟩
            case measure => have := HQ.out; omega
      · obtain rfl : i = m := by omega
        have HCT : Hid (S.cnt zone = (S.ofL zone).length) := Lib.hid rfl
        have HLB : Hid ((S.bareL).length ≤ 22) := Lib.hid (Nat.le_trans (VaS.bareK_len S.m) (VaS.bd HD.out.m.2.i).2.2.2.1)
        have HOL : Hid ((S.ofL zone).length ≤ 16) := Lib.hid (Nat.le_trans (VaS.ofK_len zone S.P) (VaS.bd HD.out.m.2.i).2.2.2.2.2.1)
        obtain ⟨of, hof⟩ : ∃ l, S.ofL zone = l := ⟨_, rfl⟩
        have HOF := Lib.hid hof
        rw [hof] at HCT HOL
        obtain ⟨n, hn⟩ : ∃ n, of.length = n := ⟨_, rfl⟩
        have HN := Lib.hid hn
        rw [hn] at HCT HOL
        have qn : ((n : Int) == (n : Int)) = true := by simp
        clear hof hn HQ HL HR
        go_wp2_with fail
        refine (vacount_at zone HD.out.m).mono ?_
        rw [HCT.out]
        rintro r w3 ⟨rfl, hb⟩
        have HD3 := Lib.hid (HD.out.up hb)
        clear hb HD
        go_wp2_with fail
        refine (rvof_at zone HD3.out.r).mono ?_
        rw [HOF.out]
        rintro r w4 ⟨v4, rfl, ho, hb⟩
        rw [HN.out] at ho
        obtain ⟨A4, c4, rfl, _, _, _⟩ := ho.form
        have HD4 := Lib.hid (HD3.out.up hb)
        clear hb ho HD3
        go_wp2_with fail
        refine (vaof_at zone HD4.out.m).mono ?_
        rw [HOF.out]
        rintro r w5 ⟨v5, rfl, ho, hb⟩
        rw [HN.out] at ho
        obtain ⟨A5, c5, rfl, _, _, _⟩ := ho.form
        have HR5 := Lib.hid ho.rd
        have HD5 := Lib.hid (HD4.out.up hb)
        clear hb ho HD4
        go_wp2_with fail
        refine (rvof_at zone HD5.out.r).mono ?_
        rw [HOF.out]
        rintro r w6 ⟨v6, rfl, ho, hb⟩
        rw [HN.out] at ho
        obtain ⟨A6, c6, rfl, _, _, _⟩ := ho.form
        have HR6 := Lib.hid ho.rd
        have HR56 := Lib.hid (HR5.out.up hb)
        have HD6 := Lib.hid (HD5.out.up hb)
        clear hb ho HD5 HR5
        go_wp2_with fail
        refine (vnum_at of HN.out HR56.out HR6.out (by have := HOL.out; omega)).mono ?_
        rintro r w7 ⟨rfl, hb⟩
        have HD7 := Lib.hid (HD6.out.up hb)
        clear hb HD6 HR6 HR56
        go_wp2_with fail
        refine (vabare_at HD7.out.m).mono ?_
        rintro r w8 ⟨v8, rfl, ho, hb⟩
        obtain ⟨A8, c8, rfl, _, _, _⟩ := ho.form
        have HR8 := Lib.hid ho.rd
        have HD8 := Lib.hid (HD7.out.up hb)
        clear hb ho HD7
        go_wp2_with fail
        refine (rvbare_at HD8.out.r).mono ?_
        rintro r w9 ⟨v9, rfl, ho, hb⟩
        obtain ⟨A9, c9, rfl, _, _, _⟩ := ho.form
        have HR9 := Lib.hid ho.rd
        have HR89 := Lib.hid (HR8.out.up hb)
        have HD9 := Lib.hid (HD8.out.up hb)
        clear hb ho HD8 HR8
        go_wp2_with fail
        refine (rsame_is HR89.out HR9.out (by rw [nats_len]) (by rw [nats_len]) (by have := HLB.out; omega)).mono ?_
        rw [show decide (nats S.bareL = nats S.bareL) = true by simp]
        rintro r w10 ⟨rfl, hb⟩
        have HD10 := Lib.hid (HD9.out.up hb)
        clear hb HR9 HR89
        go_wp2_with fail
        go_ret
        exact ⟨rfl, below_all HW0.out HD10.out.old⟩
  · rw [if_neg hrr] at h
    obtain rfl := h
    go_wp2_with fail
    refine (rvnew_at z p b w2).mono ?_
    rintro r w3 ⟨hb, h⟩
    rw [if_neg hrr] at h
    obtain rfl := h
    have HB3 := Lib.hid (below_all HB2.out hb)
    clear hb HB2 HB1 x0 x1 x2 HBB2 hrr
    go_wp2_with fail
    refine (code_errno 1 (HG.out.below (below_all HW0.out HB3.out))).mono ?_
    rintro r w4 ⟨rfl, hb⟩
    have HB4 := Lib.hid (below_all HB3.out hb)
    clear hb HB3
    go_wp2_with fail
    go_ret
    exact ⟨rfl, below_all HW0.out HB4.out⟩
end Go.Proofs.YtajccmkdfmpapaaDoor
